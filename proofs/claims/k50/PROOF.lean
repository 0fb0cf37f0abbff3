import PyProof.Rows.All
import Wide.All
import OpenK.AllK
import Wide.FinOn
import Lean
import PyProof.EqAt
import PyProof.EqKinds
import PyProof.TupleCall
import PySem.Challenge.RW_putsigns_k50_ways_written
set_option Elab.async false
set_option linter.all false
set_option maxRecDepth 100000
namespace L2
open PySem PySem.Spec PyProof.Rows
abbrev Key := Sum Int Str
def keyIs : Key → Value → Bool
  | .inl k, v => Value.isInt k v
  | .inr x, v => Value.isStrOf x v
def keyH (w : World) : Key → Int
  | .inl k => hashInt k
  | .inr x => hashStr w x
theorem keyIs_shape : ∀ {k : Key} {v : Value}, keyIs k v = true → (∃ i t, k = Sum.inl i ∧ v = Value.int i t) ∨ (∃ x t, k = Sum.inr x ∧ v = Value.str x t)
  | .inl i, v, h => by
    obtain ⟨t, e⟩ := Value.isInt_shape (k := i) (v := v) h
    exact .inl ⟨i, t, rfl, e⟩
  | .inr x, v, h => by
    obtain ⟨t, e⟩ := Value.isStrOf_shape (x := x) (v := v) h
    exact .inr ⟨x, t, rfl, e⟩
theorem key_ll (a b : Int) : decide ((Sum.inl a : Key) = Sum.inl b) = (a == b) := by
  by_cases e : a = b
  · subst e; simp
  · have h : ¬ (Sum.inl a : Key) = Sum.inl b := fun q => e (Sum.inl.inj q)
    rw [decide_eq_false h]
    exact (beq_eq_false_iff_ne.mpr e).symm
theorem key_rr (a b : Str) : decide ((Sum.inr a : Key) = Sum.inr b) = decide (a = b) := by
  by_cases e : a = b
  · subst e; simp
  · have h : ¬ (Sum.inr a : Key) = Sum.inr b := fun q => e (Sum.inr.inj q)
    rw [decide_eq_false h, decide_eq_false e]
theorem key_lr (a : Int) (b : Str) : decide ((Sum.inl a : Key) = Sum.inr b) = false := decide_eq_false (fun q => nomatch q)
theorem key_rl (a : Str) (b : Int) : decide ((Sum.inr a : Key) = Sum.inl b) = false := decide_eq_false (fun q => nomatch q)
def mixKind (prog : Program) (w : World) : PySem.KeyKind prog w Key where
  is := keyIs
  hash := keyH w
  inj := fun v a b ha hb => by
    rcases keyIs_shape ha with ⟨i, t, rfl, rfl⟩ | ⟨x, t, rfl, rfl⟩
    · rcases keyIs_shape hb with ⟨j, u, rfl, e⟩ | ⟨y, u, rfl, e⟩
      · injection e with e1 _; rw [e1]
      · exact nomatch e
    · rcases keyIs_shape hb with ⟨j, u, rfl, e⟩ | ⟨y, u, rfl, e⟩
      · exact nomatch e
      · injection e with e1 _; rw [e1]
  byValue := fun k v h => by
    rcases keyIs_shape h with ⟨i, t, rfl, rfl⟩ | ⟨x, t, rfl, rfl⟩ <;> rfl
  pyHash := fun hv h => by
    rcases keyIs_shape hv with ⟨i, t, rfl, rfl⟩ | ⟨x, t, rfl, rfl⟩
    · exact wpAny_pyHash_int h
    · exact wpAny_pyHash_str h
  eqBool := fun hu hv h => by
    rcases keyIs_shape hu with ⟨i, t, rfl, rfl⟩ | ⟨x, t, rfl, rfl⟩
    · rcases keyIs_shape hv with ⟨j, u, rfl, rfl⟩ | ⟨y, u, rfl, rfl⟩
      · rw [key_ll] at h; exact wpAny_eqBool_int h
      · rw [key_lr] at h; exact SeqAt.EqAt.int_str i t y u _ _ _ _ h
    · rcases keyIs_shape hv with ⟨j, u, rfl, rfl⟩ | ⟨y, u, rfl, rfl⟩
      · rw [key_rl] at h; exact SeqAt.EqAt.str_int x t j u _ _ _ _ h
      · rw [key_rr] at h; exact wpAny_eqBool_str h
  «strs» := fun k x t v h => by
    rcases keyIs_shape h with ⟨i, u, rfl, e⟩ | ⟨y, u, rfl, e⟩
    · exact nomatch e
    · injection e with e1 _
      subst e1
      cases v <;> rfl
theorem mixKind_is (prog : Program) (w : World) (k : Key) (v : Value) : (mixKind prog w).is k v = keyIs k v := rfl
end L2
namespace L2
open PySem PySem.Spec PyProof.Rows
inductive V where
  | non | bl (b : Bool) | int (i : Int) | str (x : Str) | byt (b : Array UInt8) | flt (b : UInt64) | ref (a : Addr) | ty (n : String)
  deriving DecidableEq
def RelV : V → Value → Prop
  | .non, u => u = Value.none
  | .bl b, u => u = Value.bool b
  | .int i, u => ∃ t, u = Value.int i t
  | .str x, u => ∃ t, u = Value.str x t
  | .byt b, u => ∃ t, u = Value.bytes b t
  | .flt b, u => ∃ t, u = Value.float b t
  | .ref a, u => u = Value.ref a
  | .ty n, u => u = Value.type n
abbrev Vals : List V → List Value → Prop := Paired RelV
theorem Vals.length {xs : List V} {us : List Value} (r : Vals xs us) : xs.length = us.length := Paired.length r
theorem Vals.get : ∀ {xs : List V} {us : List Value} {i : Nat} {x : V}, Vals xs us → xs[i]? = some x → ∃ u, us[i]? = some u ∧ RelV x u
  | _, _, _, _, .nil, e => by simp at e
  | _, _, 0, _, .cons r _, e => by simp at e; subst e; exact ⟨_, rfl, r⟩
  | _, _, i + 1, x, .cons _ t, e => by
    obtain ⟨u, h1, h2⟩ := Vals.get (i := i) (x := x) t (by simpa using e)
    exact ⟨u, by simpa using h1, h2⟩
theorem Vals.set {x : V} {u : Value} (r : RelV x u) : ∀ {xs : List V} {us : List Value} (i : Nat), Vals xs us → Vals (xs.set i x) (us.set i u)
  | _, _, _, .nil => .nil
  | _, _, 0, .cons _ t => .cons r t
  | _, _, i + 1, .cons q t => .cons q (Vals.set r i t)
theorem Vals.append : ∀ {xs ys : List V} {us ws : List Value}, Vals xs us → Vals ys ws → Vals (xs ++ ys) (us ++ ws)
  | _, _, _, _, .nil, s => s
  | _, _, _, _, .cons r t, s => .cons r (Vals.append t s)
theorem Vals.take : ∀ {xs : List V} {us : List Value} (n : Nat), Vals xs us → Vals (xs.take n) (us.take n)
  | _, _, 0, _ => .nil
  | _, _, _ + 1, .nil => .nil
  | _, _, n + 1, .cons r t => .cons r (Vals.take n t)
theorem Vals.drop : ∀ {xs : List V} {us : List Value} (n : Nat), Vals xs us → Vals (xs.drop n) (us.drop n)
  | _, _, 0, r => r
  | _, _, _ + 1, .nil => .nil
  | _, _, n + 1, .cons _ t => Vals.drop n t
def RelO : Option V → Option Value → Prop
  | some v, some u => RelV v u
  | none, none => True
  | _, _ => False
def KV {κ : Type} : List (κ × V) → List (κ × Value) → Prop := Paired fun (p : κ × V) (q : κ × Value) => p.1 = q.1 ∧ RelV p.2 q.2
def kV : Key → V
  | .inl i => .int i
  | .inr x => .str x
inductive HO where
  | lst (xs : List V)
  | tup (xs : List V)
  | dK (kvs : List (Key × V)) | dT (kvs : List (List Key × V))
  | set (S : Int → Bool) (n : Nat)
  | ins (C dx : Addr) (fs : List (Str × V))
  | own (x : Addr)
  | xd (fs : List (Str × V))
  | met (f x : Addr)
  | rng (lo hi : Int)
  | frz (o : Obj) (u : HO)
  | tbl (ps : Array Value)
  | ext (φ : Heap → Prop)
abbrev Hp := Addr → Option HO
def upd (H : Hp) (a : Addr) (o : HO) : Hp := fun b => if b = a then some o else H b
theorem upd_same {H : Hp} {a : Addr} {o : HO} : upd H a o a = some o := by unfold upd; rw [if_pos rfl]
theorem upd_ne {H : Hp} {a b : Addr} {o : HO} (h : b ≠ a) : upd H a o b = H b := by unfold upd; rw [if_neg h]
theorem ne_of_none {H : Hp} {a b : Addr} {o : HO} (h : H a = some o) (h' : H b = none) : a ≠ b := by
  intro e; subst e; rw [h] at h'; cases h'
section
variable (P : Program) (w : World)
def ObjOk (H : Hp) (h : Heap) (a : Addr) : HO → Prop
  | .lst xs => xs.length ≤ sizeLine ∧ ∃ (its : List Value) (n : Nat), Vals xs its ∧ h.get? a = some { cls := .type "list", data := .seq its.toArray n }
  | .tup xs => xs.length ≤ sizeLine ∧ ∃ its : List Value, Vals xs its ∧ IsTup h a its.toArray
  | .dK kvs => kvs.length ≤ sizeLine ∧ (a == sysModules) = false ∧ ∃ vs, KV kvs vs ∧ h.DictOf (mixKind P w) a vs
  | .dT kvs => kvs.length ≤ sizeLine ∧ (a == sysModules) = false ∧ ∃ xs : List (List Key × Addr × Value),
      Paired (fun (p : List Key × V) (q : List Key × Addr × Value) => p.1 = q.1 ∧ H q.2.1 = some (.tup (p.1.map kV)) ∧ RelV p.2 q.2.2) kvs xs ∧
      ∃ o es ep, h.get? a = some o ∧ o.ExactDict ∧ o.data = .dict es ep ∧ es.toList = xs.map (entryOfKey (tupleKind (mixKind P w))) ∧ (xs.map (·.1)).Nodup
  | .set S n => h.SetOf (intKind P w) a S n
  | .ins C dx fs => H dx = some (.own a) ∧ fs.length ≤ 1000 ∧ dx ≠ a ∧ h.get? a = some (PySem.W.instObj C dx) ∧
      ∃ mA, h.Ns1 dx mA ∧ (∀ f, RelO (fs.lookup f) (mA f)) ∧ PySem.Within mA (fs.map (·.1))
  | .own _ => ∃ o, h.get? a = some o
  | .xd fs => ∃ mA, h.Ns1 a mA ∧ ∀ f, RelO (fs.lookup f) (mA f)
  | .rng lo hi => ∃ t u v, h.get? a = some { cls := .type "range", data := .fields #[.int lo t, .int hi u, .int 1 v] }
  | .frz o u => h.get? a = some o ∧ ObjOk H h a u
  | .tbl ps => h.get? a = some { cls := .none, data := .fields ps }
  | .met f x => h.get? a = some (PySem.W.methodObj (.ref f) (.ref x))
  | .ext φ => φ h ∧ (∃ o, h.get? a = some o) ∧ ∀ h1 h2 : Heap, φ h1 → (∀ o, h1.get? a = some o → h2.get? a = some o) → φ h2
def HOk (H : Hp) (h : Heap) : Prop := ∀ a o, H a = some o → ObjOk P w H h a o
end
section
variable {P : Program} {w : World} {H H' : Hp} {h h' : Heap} {a : Addr} {o : HO}
theorem ObjOk.lt (x : ObjOk P w H h a o) : a < h.objs.size := by
  cases o with
  | lst xs => obtain ⟨_, _, _, _, e⟩ := x; exact Heap.lt_size e
  | tup xs => obtain ⟨_, _, _, p⟩ := x; exact p.lt
  | dK kvs => obtain ⟨_, _, _, _, o, _, _, e, _⟩ := x; exact Heap.lt_size e
  | dT kvs => obtain ⟨_, _, _, _, o, _, _, e, _⟩ := x; exact Heap.lt_size e
  | set S n => obtain ⟨o, _, _, _, e, _⟩ := x; exact Heap.lt_size e
  | ins C dx fs => obtain ⟨_, _, _, e, _⟩ := x; exact Heap.lt_size e
  | own y => obtain ⟨_, e⟩ := x; exact Heap.lt_size e
  | xd fs => obtain ⟨_, ⟨_, _, _, e, _⟩, _⟩ := x; exact Heap.lt_size e
  | rng lo hi => obtain ⟨_, _, _, e⟩ := x; exact Heap.lt_size e
  | frz ob u => obtain ⟨e, _⟩ := x; exact Heap.lt_size e
  | tbl ps => exact Heap.lt_size (show h.get? a = some _ from x)
  | met f y => exact Heap.lt_size (show h.get? a = some _ from x)
  | ext φ => obtain ⟨_, ⟨_, e⟩, _⟩ := x; exact Heap.lt_size e
theorem Paired.mapP {α β : Type} {F G : α → β → Prop} : ∀ {l₁ : List α} {l₂ : List β}, Paired F l₁ l₂ → (∀ a b, F a b → G a b) → Paired G l₁ l₂
  | _, _, .nil, _ => .nil
  | _, _, .cons r t, f => .cons (f _ _ r) (Paired.mapP t f)
theorem ObjOk.stay (x : ObjOk P w H h a o) (k : ∀ b u, (b = a ∨ H b = some (.own a)) → h.get? b = some u → h'.get? b = some u)
    (ho : ∀ b, H b = some (.own a) → H' b = some (.own a)) (ht : ∀ b xs, H b = some (.tup xs) → H' b = some (.tup xs)) : ObjOk P w H' h' a o := by
  induction o with
  | lst xs => obtain ⟨z, its, n, r, e⟩ := x; exact ⟨z, its, n, r, k _ _ (.inl rfl) e⟩
  | tup xs => obtain ⟨z, its, r, ob, e, c⟩ := x; exact ⟨z, its, r, ob, k _ _ (.inl rfl) e, c⟩
  | dK kvs => obtain ⟨z, y, vs, r, ob, es, ep, e, c⟩ := x; exact ⟨z, y, vs, r, ob, es, ep, k _ _ (.inl rfl) e, c⟩
  | dT kvs =>
    obtain ⟨z, y, xs, r, ob, es, ep, e, c⟩ := x
    exact ⟨z, y, xs, Paired.mapP r fun p q z => ⟨z.1, ht _ _ z.2.1, z.2.2⟩, ob, es, ep, k _ _ (.inl rfl) e, c⟩
  | set S n => obtain ⟨ob, es, ep, t, e, c⟩ := x; exact ⟨ob, es, ep, t, k _ _ (.inl rfl) e, c⟩
  | ins C dx fs =>
    obtain ⟨d, z, ne, e, mA, ⟨od, es, ep, e2, c⟩, r⟩ := x
    exact ⟨ho _ d, z, ne, k _ _ (.inl rfl) e, mA, ⟨od, es, ep, k _ _ (.inr d) e2, c⟩, r⟩
  | own y => obtain ⟨ob, e⟩ := x; exact ⟨ob, k _ _ (.inl rfl) e⟩
  | xd fs => obtain ⟨mA, ⟨od, es, ep, e, c⟩, r⟩ := x; exact ⟨mA, ⟨od, es, ep, k _ _ (.inl rfl) e, c⟩, r⟩
  | rng lo hi => obtain ⟨t, u, v, e⟩ := x; exact ⟨t, u, v, k _ _ (.inl rfl) e⟩
  | frz ob u ih => obtain ⟨e, q⟩ := x; exact ⟨k _ _ (.inl rfl) e, ih q⟩
  | tbl ps =>
    have e : h.get? a = some { cls := .none, data := .fields ps } := x
    show h'.get? a = some { cls := .none, data := .fields ps }
    exact k a _ (.inl rfl) e
  | met f y =>
    have e : h.get? a = some (PySem.W.methodObj (.ref f) (.ref y)) := x
    show h'.get? a = some (PySem.W.methodObj (.ref f) (.ref y))
    exact k a _ (.inl rfl) e
  | ext φ => obtain ⟨p, ⟨o, e⟩, st⟩ := x; exact ⟨st _ _ p fun o q => k _ _ (.inl rfl) q, ⟨o, k _ _ (.inl rfl) e⟩, st⟩
theorem HOk.lt (x : HOk P w H h) (e : H a = some o) : a < h.objs.size := (x a o e).lt
theorem HOk.fresh (x : HOk P w H h) (e : h.objs.size ≤ a) : H a = none := by
  cases q : H a with
  | none => rfl
  | some u => exact absurd (Nat.lt_of_lt_of_le (x.lt q) e) (Nat.lt_irrefl _)
theorem HOk.kept (x : HOk P w H h) (k : ∀ b u, h.get? b = some u → h'.get? b = some u) : HOk P w H h' := fun a o e =>
  (x a o e).stay (fun b u _ q => k b u q) (fun _ q => q) fun _ _ q => q
theorem HOk.laid (x : HOk P w H h) (k : ∀ b u, h.get? b = some u → h'.get? b = some u) (hp : h.objs.size ≤ a) (new : ObjOk P w (upd H a o) h' a o) : HOk P w (upd H a o) h' := fun b u e => by
  have hn := x.fresh hp
  by_cases hb : b = a
  · subst hb; rw [upd_same] at e; cases e; exact new
  · rw [upd_ne hb] at e
    exact (x b u e).stay (fun c v _ q => k c v q) (fun c q => by rw [upd_ne (ne_of_none q hn)]; exact q) fun c xs q => by rw [upd_ne (ne_of_none q hn)]; exact q
end
def Rd (H : Hp) (a : Addr) (u : HO) : Prop := H a = some u ∨ ∃ o, H a = some (.frz o u)
theorem Rd.ok {P : Program} {w : World} {H : Hp} {h : Heap} {a : Addr} {u : HO} (r : Rd H a u) (x : HOk P w H h) : ObjOk P w H h a u := by
  rcases r with r | ⟨o, r⟩
  · exact x a u r
  · obtain ⟨_, q⟩ := x a _ r
    exact q
def Mut : Option HO → Prop
  | some (.lst _) => True
  | some (.dK _) => True
  | some (.dT _) => True
  | some (.set _ _) => True
  | some (.ins _ _ _) => True
  | some (.ext _) => True
  | _ => False
section
variable {P : Program} {w : World} {H : Hp} {h h' : Heap} {x e : Addr} {o' : HO}
theorem HOk.write (ok : HOk P w H h) (mu : Mut (H x)) (he : e = x ∨ H e = some (.own x)) (k : ∀ b u, b ≠ e → h.get? b = some u → h'.get? b = some u) (heo : ∃ u, h'.get? e = some u)
    (new : ObjOk P w (upd H x o') h' x o') : HOk P w (upd H x o') h' := fun b u q => by
  have nown : ∀ c y, H c = some (.own y) → c ≠ x := fun c y r z => by subst z; rw [r] at mu; exact mu
  have ntup : ∀ c xs, H c = some (.tup xs) → c ≠ x := fun c xs r z => by subst z; rw [r] at mu; exact mu
  by_cases hb : b = x
  · subst hb; rw [upd_same] at q; cases q; exact new
  · rw [upd_ne hb] at q
    by_cases hbe : b = e
    · have q' : H b = some (.own x) := by
        rcases he with z | z
        · exact absurd (hbe.trans z) hb
        · rw [hbe]; exact z
      rw [q] at q'; cases q'
      obtain ⟨v, hv⟩ := heo
      exact ⟨v, by rw [hbe]; exact hv⟩
    · refine (ok b u q).stay (fun c v hc r => k c v ?_ r) (fun c r => by rw [upd_ne (nown c b r)]; exact r) fun c xs r => by rw [upd_ne (ntup c xs r)]; exact r
      rcases hc with rfl | hc
      · exact hbe
      · rintro rfl
        rcases he with z | z
        · exact nown c b hc z
        · rw [hc] at z; cases z; exact hb rfl
end
structure Un (fs ex : List Addr) (H H' : Hp) (h h' : Heap) : Prop where
  keep : ∀ b o, h.get? b = some o → H b = none → b ∉ fs → b ∉ ex → h'.get? b = some o
  slot : ∀ b o, h.get? b = some o → H b = none → b ∈ fs → b ∉ ex → ∃ sl, h'.get? b = some { o with slots := sl }
  free : ∀ b o, h.get? b = some o → H b = none → b ∉ ex → H' b = none
  there : ∀ b o, h.get? b = some o → b ∉ ex → ∃ o', h'.get? b = some o'
  tups : ∀ b xs, H b = some (.tup xs) → H' b = some (.tup xs)
  frzs : ∀ b o u, H b = some (.frz o u) → H' b = some (.frz o u)
  tbls : ∀ b ps, H b = some (.tbl ps) → ∃ more, H' b = some (.tbl (ps ++ more))
section
variable {fs fs' ex ex' : List Addr} {H H1 H2 : Hp} {h h1 h2 h' : Heap} {a x e : Addr} {o : HO}
theorem Un.any (u : Un fs ex H H1 h h1) {b : Addr} {ob : Obj} (q : h.get? b = some ob) (n : H b = none) (hx : b ∉ ex) : ∃ sl, h1.get? b = some { ob with slots := sl } := by
  by_cases hb : b ∈ fs
  · exact u.slot b ob q n hb hx
  · exact ⟨ob.slots, u.keep b ob q n hb hx⟩
theorem Un.kept (k : ∀ b u, h.get? b = some u → h'.get? b = some u) : Un fs ex H H h h' :=
  ⟨fun b ob q _ _ _ => k b ob q, fun b ob q _ _ _ => ⟨ob.slots, k b ob q⟩, fun _ _ _ n _ => n, fun b ob q _ => ⟨ob, k b ob q⟩, fun _ _ q => q, fun _ _ _ q => q, fun _ ps q => ⟨#[], by rw [q]; simp⟩⟩
theorem Un.refl : Un fs ex H H h h := Un.kept fun _ _ q => q
theorem Un.laid (k : ∀ b u, h.get? b = some u → h'.get? b = some u) (hp : h.objs.size ≤ a) (hn : H a = none) : Un fs ex H (upd H a o) h h' where
  keep := fun b u q _ _ _ => k b u q
  slot := fun b u q _ _ _ => ⟨u.slots, k b u q⟩
  free := fun b u q n _ => by rw [upd_ne (Nat.ne_of_lt (Nat.lt_of_lt_of_le (Heap.lt_size q) hp))]; exact n
  there := fun b u q _ => ⟨u, k b u q⟩
  tups := fun b xs q => by rw [upd_ne (ne_of_none q hn)]; exact q
  frzs := fun b u xs q => by rw [upd_ne (ne_of_none q hn)]; exact q
  tbls := fun b ps q => ⟨#[], by rw [upd_ne (ne_of_none q hn), q]; simp⟩
theorem Un.write (mu : Mut (H x)) (he : e = x ∨ H e = some (.own x)) (k : ∀ b u, b ≠ e → h.get? b = some u → h'.get? b = some u) (heo : ∃ u, h'.get? e = some u) : Un fs ex H (upd H x o) h h' := by
  have hx : ∀ b, H b = none → b ≠ x := fun b n z => by subst z; rw [n] at mu; exact mu
  have hb : ∀ b, H b = none → b ≠ e := fun b n z => by
    subst z
    rcases he with r | r
    · exact hx b n r
    · rw [n] at r; cases r
  have hm : ∀ b u, H b = some u → ¬ Mut (some u) → b ≠ x := fun b u q nm z => by subst z; rw [q] at mu; exact nm mu
  refine ⟨fun b u q n _ _ => k b u (hb b n) q, fun b u q n _ _ => ⟨u.slots, k b u (hb b n) q⟩, fun b u q n _ => by rw [upd_ne (hx b n)]; exact n, fun b u q _ => ?_,
    fun b xs q => by rw [upd_ne (hm b _ q fun z => z)]; exact q, fun b u xs q => by rw [upd_ne (hm b _ q fun z => z)]; exact q, fun b ps q => ⟨#[], by rw [upd_ne (hm b _ q fun z => z), q]; simp⟩⟩
  by_cases hbe : b = e
  · subst hbe; exact heo
  · exact ⟨u, k b u hbe q⟩
end
def trk (h : Heap) (H : Hp) : List Addr := (List.range h.objs.size).filter fun a => (H a).isSome
def hidT (h : Heap) (H : Hp) : Heap := PySem.W.hideAll h (trk h H)
theorem hidT_size (h : Heap) (H : Hp) : (hidT h H).objs.size = h.objs.size := PySem.W.hideAll_size _ _
theorem hidT_get {h : Heap} {H : Hp} {b : Addr} {o : Obj} (e : h.get? b = some o) (n : H b = none) : (hidT h H).get? b = some o :=
  PySem.W.hideAll_get _ e fun hm => by
    have q : (H b).isSome = true := (List.mem_filter.mp hm).2
    rw [n] at q; simp at q
theorem of_hidT {h : Heap} {H : Hp} {b : Addr} {o : Obj} (e : (hidT h H).get? b = some o) : h.get? b = some o ∧ H b = none := by
  have e' : h.get? b = some o := PySem.W.of_hideAll (trk h H) e
  refine ⟨e', ?_⟩
  cases q : H b with
  | none => rfl
  | some x =>
    have hm : b ∈ trk h H := List.mem_filter.mpr ⟨List.mem_range.mpr (Heap.lt_size e'), by simp [q]⟩
    have z : (hidT h H).get? b = none := PySem.W.hideAll_none (trk h H) hm
    rw [z] at e; cases e
def allNews (g h : Heap) (L : Addr) : List (Addr × Obj) := (List.range h.objs.size).filterMap fun a => if a = L ∨ (g.get? a).isSome = true then none else (h.get? a).map fun o => (a, o)
def rest (g h : Heap) (L d : Addr) : List (Addr × Obj) := (allNews g h L).filter fun p => decide (p.1 ≠ d)
end L2
namespace L2
open PySem PySem.Spec PyProof.Rows
structure Mod (K : PySem.W.Frag) (mg : Str → Option Value) (base : Heap) : Prop where
  kin : K.In base
  glob : base.Ns mainGlobals mg
  blt : ∃ mb, base.Ns builtinsNs mb ∧ ∀ x : Str, x ≠ "__name__" → mb x = bootBuiltins x
  nolimit : base.NoLimit
  sysm : ∃ mm, base.Ns sysModules mm
structure Cx where
  prog : Program
  w : World
  K : PySem.W.Frag
  mg : Str → Option Value
  base : Heap
  A : Around
  N : List Str
  s₀ : Shared
  H₀ : Hp
  env : Env
  outer : List Env
  stack : List Env
  ex : List Addr
  fn : Str → Bool
  calm : Bool
  pn : List (Addr × Obj)
  xe : Value → Shared → Prop
def frs (l : List Env) : List Addr := l.filterMap (·.frame)
abbrev Cx.fs (X : Cx) : List Addr := frs X.outer
def Vis (sc : Scope) (x : Str) : Prop := sc.names.lookup x = some .local ∨ sc.names.lookup x = some .cell ∨ sc.names.lookup x = some .free
def Loc (sc : Scope) (x : Str) : Prop := sc.names.lookup x = some .local ∨ sc.names.lookup x = some .cell
def Look (env : Env) (h : Heap) (m : Str → Option Value) (x : Str) (u : Value) : Prop :=
  (env.kindOf x = some .local ∧ m x = some u) ∨ ((env.kindOf x = some .cell ∨ env.kindOf x = some .free) ∧ ∃ c, env.cells.lookup x = some c ∧ h.IsCell c (some u))
structure Cx.Ok (X : Cx) : Prop where
  mod : Mod X.K X.mg X.base
  kind : X.env.scope.kind = .function
  glob : X.env.globals = mainGlobals
  blt : X.env.builtins = builtinsNs
  above : X.s₀.heap.objs.size ≤ X.env.locals
  inj : ∀ x y c, X.env.cells.lookup x = some c → X.env.cells.lookup y = some c → x = y
  has : ∀ x, (X.env.kindOf x = some .cell ∨ X.env.kindOf x = some .free) → ∃ c, X.env.cells.lookup x = some c
  cab : ∀ x c, X.fn x = true → X.env.cells.lookup x = some c → X.s₀.heap.objs.size ≤ c
  hd : X.calm = true → X.A.handled = none
  frames : X.A.frames = some X.stack
  stk : X.stack = X.outer ∨ (X.stack = X.env :: X.outer ∧ X.env.frame = some X.env.locals)
  exf : ∀ b ∈ X.ex, b ≠ X.env.locals ∧ ∀ x c, X.env.cells.lookup x = some c → c ≠ b
  bs : ∀ b o, X.base.get? b = some o → X.s₀.heap.get? b = some o ∧ X.H₀ b = none
  bsz : X.base.objs.size ≤ X.s₀.heap.objs.size
  noex : ∀ b o, X.base.get? b = some o → b ∉ X.ex
  exfs : ∀ b ∈ X.ex, b ∉ X.fs
  funs : X.s₀.heap.FunFrames X.base X.outer
  frf : ∀ b ∈ X.fs, X.H₀ b = none
structure Inv (X : Cx) (pins : List (Addr × Obj)) (σ : List (Option V)) (H : Hp) (s : Shared) : Prop where
  ok : X.Ok
  os : s.os = X.s₀.os
  bare : AllBare s.gens
  base : Un X.fs X.ex X.H₀ H X.s₀.heap s.heap
  loc : ∃ m, s.heap.Ns X.env.locals m ∧ ∀ (i : Nat) (x : Str) (v : V), X.N[i]? = some x → σ[i]? = some (some v) → Vis X.env.scope x → ∃ u, RelV v u ∧ Look X.env s.heap m x u
  cell : ∀ x c, X.env.cells.lookup x = some c → ∃ v, s.heap.IsCell c v
  free : H X.env.locals = none
  freeC : ∀ x c, X.env.cells.lookup x = some c → H c = none
  pin : ∀ p ∈ X.pn ++ pins, s.heap.get? p.1 = some p.2 ∧ H p.1 = none ∧ p.1 ≠ X.env.locals ∧ p.1 ∉ X.fs ∧ ∀ v, p.2.data ≠ .cell v
  hok : HOk X.prog X.w H s.heap
  len : σ.length = X.N.length
section
variable {X : Cx} {pins : List (Addr × Obj)} {σ : List (Option V)} {H H' : Hp} {s : Shared} {h' : Heap}
theorem Cx.Ok.nofr (ok : X.Ok) {b : Addr} {o : Obj} (e : X.base.get? b = some o) : b ∉ X.fs := fun hb => by
  have := (ok.funs.mem hb).1
  rw [e] at this; cases this
theorem Inv.bs (I : Inv X pins σ H s) : ∀ b o, X.base.get? b = some o → s.heap.get? b = some o ∧ H b = none := fun b o e =>
  ⟨I.base.keep b o (I.ok.bs b o e).1 (I.ok.bs b o e).2 (I.ok.nofr e) (I.ok.noex b o e), I.base.free b o (I.ok.bs b o e).1 (I.ok.bs b o e).2 (I.ok.noex b o e)⟩
theorem Inv.bk (I : Inv X pins σ H s) : ∀ b o, X.base.get? b = some o → s.heap.get? b = some o := fun b o e => (I.bs b o e).1
theorem Inv.mod (I : Inv X pins σ H s) : Mod X.K X.mg X.base := I.ok.mod
theorem Inv.kIn (I : Inv X pins σ H s) : X.K.In s.heap := I.ok.mod.kin.keeps I.bk
theorem Inv.lt (I : Inv X pins σ H s) : X.env.locals < s.heap.objs.size := let ⟨_, hn, _⟩ := I.loc; hn.lt
theorem Inv.sz (I : Inv X pins σ H s) : X.s₀.heap.objs.size ≤ s.heap.objs.size := Nat.le_trans I.ok.above (Nat.le_of_lt I.lt)
theorem Inv.nofs (I : Inv X pins σ H s) {a : Addr} (h : s.heap.objs.size ≤ a) : a ∉ X.fs := fun hb => by
  obtain ⟨_, o, ho, _⟩ := I.ok.funs.mem hb
  exact absurd (Nat.lt_of_lt_of_le (Heap.lt_size ho) (Nat.le_trans I.sz h)) (Nat.lt_irrefl _)
theorem Inv.cne (I : Inv X pins σ H s) : ∀ x c, X.env.cells.lookup x = some c → c ≠ X.env.locals := fun x c e z => by
  obtain ⟨v, o, ho, hd⟩ := I.cell x c e
  obtain ⟨m, ⟨o', es, ep, ho', hd', _⟩, _⟩ := I.loc
  rw [z, ho'] at ho; cases ho; rw [hd'] at hd; cases hd
theorem Inv.funs (I : Inv X pins σ H s) : s.heap.FunFrames X.base X.outer := by
  have all : ∀ (l : List Env), (∀ b ∈ frs l, b ∈ X.fs) → X.s₀.heap.FunFrames X.base l → s.heap.FunFrames X.base l := by
    intro l
    induction l with
    | nil => intro _ _; trivial
    | cons env r ih =>
      intro hs hl
      obtain ⟨hk, ⟨L, o, hf, hn, ho, hd⟩, hr⟩ := hl
      have hL : L ∈ X.fs := hs L (by unfold frs; rw [List.filterMap_cons, hf]; exact List.mem_cons_self)
      obtain ⟨sl, e⟩ := I.base.slot L o ho (I.ok.frf L hL) hL fun z => I.ok.exfs L z hL
      exact ⟨hk, ⟨L, _, hf, hn, e, hd⟩, ih (fun b hb => hs b (by unfold frs; rw [List.filterMap_cons, hf]; exact List.mem_cons_of_mem _ hb)) hr⟩
  exact all X.outer (fun _ hb => hb) I.ok.funs
theorem Inv.stack (I : Inv X pins σ H s) : s.heap.FunFrames X.base X.stack := by
  rcases I.ok.stk with e | ⟨e, hf⟩
  · rw [e]; exact I.funs
  · rw [e]
    obtain ⟨m, hn, _⟩ := I.loc
    refine .cons (by rw [I.ok.kind]; decide) hf hn ?_ I.funs
    exact Heap.get?_none_of_le (Nat.le_trans I.ok.bsz I.ok.above)
theorem Inv.stkSub (I : Inv X pins σ H s) : ∀ b ∈ frs X.stack, b ∈ X.env.locals :: X.fs := fun b hb => by
  rcases I.ok.stk with e | ⟨e, hf⟩
  · rw [e] at hb; exact List.mem_cons_of_mem _ hb
  · rw [e] at hb
    unfold frs at hb
    rw [List.filterMap_cons, hf] at hb
    exact hb
theorem Inv.stkFree (I : Inv X pins σ H s) : ∀ b ∈ frs X.stack, H b = none := fun b hb => by
  rcases List.mem_cons.mp (I.stkSub b hb) with e | hb
  · rw [e]; exact I.free
  · obtain ⟨_, o, ho, _⟩ := I.ok.funs.mem hb
    exact I.base.free b o ho (I.ok.frf b hb) fun z => I.ok.exfs b z hb
theorem Inv.step {g' : Array GenState} {t' : Nat} {d' : Drawn} {ch : List Addr} (I : Inv X pins σ H s)
    (hch : ∀ b ∈ ch, (b ∈ X.ex ∨ X.s₀.heap.objs.size ≤ b) ∧ b ≠ X.env.locals ∧ (∀ x c, X.env.cells.lookup x = some c → c ≠ b) ∧ ∀ p ∈ X.pn ++ pins, p.1 ≠ b)
    (keep : ∀ b o, b ≠ X.env.locals → b ∉ X.fs → b ∉ ch → s.heap.get? b = some o → H b = none → h'.get? b = some o)
    (slot : ∀ b o, b ≠ X.env.locals → b ∈ X.fs → b ∉ ch → s.heap.get? b = some o → H b = none → ∃ sl, h'.get? b = some { o with slots := sl }) (free : ∀ b o, b ∉ ch → s.heap.get? b = some o → H b = none → H' b = none)
    (there : ∀ b o, b ∉ ch → s.heap.get? b = some o → ∃ o', h'.get? b = some o')
    (tups : ∀ b xs, H b = some (.tup xs) → H' b = some (.tup xs)) (frzs : ∀ b o u, H b = some (.frz o u) → H' b = some (.frz o u)) (tbls : ∀ b ps, H b = some (.tbl ps) → ∃ more, H' b = some (.tbl (ps ++ more)))
    (ns : ∀ m, s.heap.Ns X.env.locals m → h'.Ns X.env.locals m) (hok : HOk X.prog X.w H' h') (hg : AllBare g') :
    Inv X pins σ H' { s with heap := h', gens := g', drawn := d', toks := t' } := by
  have neL : ∀ b o, X.s₀.heap.get? b = some o → b ≠ X.env.locals := fun b o e => Nat.ne_of_lt (Nat.lt_of_lt_of_le (Heap.lt_size e) I.ok.above)
  have neC : ∀ b o, X.s₀.heap.get? b = some o → b ∉ X.ex → b ∉ ch := fun b o e hx hb => by
    rcases (hch b hb).1 with z | z
    · exact hx z
    · exact absurd (Nat.lt_of_lt_of_le (Heap.lt_size e) z) (Nat.lt_irrefl _)
  have cellK : ∀ x c, X.env.cells.lookup x = some c → ∀ v, s.heap.IsCell c v → h'.IsCell c v := fun x c e v ⟨o, ho, hd⟩ => by
    have nch : c ∉ ch := fun z => (hch c z).2.2.1 x c e rfl
    by_cases hc : c ∈ X.fs
    · obtain ⟨sl, q⟩ := slot c o (I.cne x c e) hc nch ho (I.freeC x c e)
      exact ⟨_, q, hd⟩
    · exact ⟨o, keep c o (I.cne x c e) hc nch ho (I.freeC x c e), hd⟩
  refine ⟨I.ok, I.os, hg, ⟨fun b o e n hb hx => ?_, fun b o e n hb hx => ?_, fun b o e n hx => ?_, fun b o e hx => ?_, fun b xs e => tups b xs (I.base.tups b xs e), fun b o xs e => frzs b o xs (I.base.frzs b o xs e), fun b ps e => ?_⟩, ?_, fun x c e => ?_, ?_, fun x c e => ?_, fun p hp => ?_, hok, I.len⟩
  · exact keep b o (neL b o e) hb (neC b o e hx) (I.base.keep b o e n hb hx) (I.base.free b o e n hx)
  · obtain ⟨sl, e1⟩ := I.base.slot b o e n hb hx
    obtain ⟨sl', e2⟩ := slot b _ (neL b o e) hb (neC b o e hx) e1 (I.base.free b o e n hx)
    exact ⟨sl', e2⟩
  · obtain ⟨o', e1⟩ := I.base.there b o e hx
    exact free b o' (neC b o e hx) e1 (I.base.free b o e n hx)
  · obtain ⟨o', e1⟩ := I.base.there b o e hx
    exact there b o' (neC b o e hx) e1
  · obtain ⟨m1, e1⟩ := I.base.tbls b ps e
    obtain ⟨m2, e2⟩ := tbls b _ e1
    exact ⟨m1 ++ m2, by rw [e2, Array.append_assoc]⟩
  · obtain ⟨m, hn, hl⟩ := I.loc
    refine ⟨m, ns m hn, fun i x v e1 e2 e3 => ?_⟩
    obtain ⟨u, r, l⟩ := hl i x v e1 e2 e3
    refine ⟨u, r, ?_⟩
    rcases l with l | ⟨k, c, e, z⟩
    · exact .inl l
    · exact .inr ⟨k, c, e, cellK x c e _ z⟩
  · obtain ⟨v, z⟩ := I.cell x c e
    exact ⟨v, cellK x c e v z⟩
  · obtain ⟨m, ⟨o, _, _, ho, _⟩, _⟩ := I.loc
    exact free _ o (fun z => (hch _ z).2.1 rfl) ho I.free
  · obtain ⟨v, o, ho, hd⟩ := I.cell x c e
    exact free c o (fun z => (hch c z).2.2.1 x c e rfl) ho (I.freeC x c e)
  · obtain ⟨e, n, ne, nf, d⟩ := I.pin p hp
    have nch : p.1 ∉ ch := fun z => (hch p.1 z).2.2.2 p hp rfl
    exact ⟨keep p.1 p.2 ne nf nch e n, free p.1 p.2 nch e n, ne, nf, d⟩
theorem Inv.un {t' : Nat} (I : Inv X pins σ H s) (u : Un X.fs [] H H' s.heap h') (hok : HOk X.prog X.w H' h') : Inv X pins σ H' { s with heap := h', toks := t' } := by
  obtain ⟨m, ⟨o, es, ep, ho, r⟩, _⟩ := id I.loc
  obtain ⟨sl, hL⟩ := u.any ho I.free (by simp)
  exact I.step (g' := s.gens) (d' := s.drawn) (ch := []) (fun _ z => nomatch z) (fun b o _ hb _ e n => u.keep b o e n hb (by simp)) (fun b o _ hb _ e n => u.slot b o e n hb (by simp)) (fun b o _ e n => u.free b o e n (by simp)) (fun b o _ e => u.there b o e (by simp)) u.tups u.frzs u.tbls (fun m' hm => by
    obtain ⟨o', es', ep', ho', r'⟩ := hm
    rw [ho] at ho'; cases ho'
    exact ⟨_, es', ep', hL, r'⟩) hok I.bare
theorem Inv.call {g' : Array GenState} {t' : Nat} {d' : Drawn} {ch : List Addr} (I : Inv X pins σ H s) (u : Un (frs X.stack) ch H H' s.heap h') (hok : HOk X.prog X.w H' h') (hg : AllBare g')
    (hch : ∀ b ∈ ch, (b ∈ X.ex ∨ X.s₀.heap.objs.size ≤ b) ∧ b ≠ X.env.locals ∧ (∀ x c, X.env.cells.lookup x = some c → c ≠ b) ∧ ∀ p ∈ X.pn ++ pins, p.1 ≠ b) :
    Inv X pins σ H' { s with heap := h', gens := g', drawn := d', toks := t' } := by
  obtain ⟨m, ⟨o, es, ep, ho, r⟩, _⟩ := id I.loc
  obtain ⟨sl, hL⟩ := u.any ho I.free fun z => (hch _ z).2.1 rfl
  exact I.step (ch := ch) hch (fun b o hL hb hc e n => u.keep b o e n (fun z => (List.mem_cons.mp (I.stkSub b z)).elim hL hb) hc) (fun b o _ _ hc e n => u.any e n hc) (fun b o hc e n => u.free b o e n hc) (fun b o hc e => u.there b o e hc) u.tups u.frzs u.tbls (fun m' hm => by
    obtain ⟨o', es', ep', ho', r'⟩ := hm
    rw [ho] at ho'; cases ho'
    exact ⟨_, es', ep', hL, r'⟩) hok hg
theorem Inv.turned {t' : Nat} {it : Addr} (I : Inv X pins σ H s) (k : ∀ b o, b ≠ it → s.heap.get? b = some o → h'.get? b = some o) (hn : H it = none) (hL : it ≠ X.env.locals)
    (h1 : it ∈ X.ex ∨ X.s₀.heap.objs.size ≤ it) (h2 : ∀ x c, X.env.cells.lookup x = some c → c ≠ it) (h3 : ∀ p ∈ X.pn ++ pins, p.1 ≠ it) : Inv X pins σ H { s with heap := h', toks := t' } := by
  have nit : ∀ b u, H b = some u → b ≠ it := fun b u e z => by rw [z, hn] at e; cases e
  refine I.step (g' := s.gens) (d' := s.drawn) (ch := [it]) (fun b hb => ?_) (fun b o _ _ hc e _ => k b o (fun z => hc (by simp [z])) e) (fun b o _ _ hc e _ => ⟨o.slots, k b o (fun z => hc (by simp [z])) e⟩) (fun _ _ _ _ n => n)
    (fun b o hc e => ⟨o, k b o (fun z => hc (by simp [z])) e⟩) (fun _ _ e => e) (fun _ _ _ e => e) (fun b ps e => ⟨#[], by rw [e]; simp⟩) (fun m hm => ?_) (fun b u e => ?_) I.bare
  · have e : b = it := by simpa using hb
    subst e
    exact ⟨h1, hL, h2, h3⟩
  · obtain ⟨o, es, ep, ho, r⟩ := hm
    exact ⟨o, es, ep, k _ o (Ne.symm hL) ho, r⟩
  · refine (I.hok b u e).stay (fun c v hc q => k c v ?_ q) (fun _ q => q) fun _ _ q => q
    rcases hc with z | z
    · rw [z]; exact nit b u e
    · exact nit c _ z
theorem Inv.tok (I : Inv X pins σ H s) (t : Nat) : Inv X pins σ H { s with toks := t } := I.un (h' := s.heap) (t' := t) Un.refl I.hok
theorem Inv.kept {t' : Nat} (I : Inv X pins σ H s) (k : ∀ b u, s.heap.get? b = some u → h'.get? b = some u) : Inv X pins σ H { s with heap := h', toks := t' } := I.un (Un.kept k) (I.hok.kept k)
theorem Inv.laid {a : Addr} {o : HO} {t' : Nat} (I : Inv X pins σ H s) (k : ∀ b u, s.heap.get? b = some u → h'.get? b = some u) (hp : s.heap.objs.size ≤ a) (new : ObjOk X.prog X.w (upd H a o) h' a o) :
    Inv X pins σ (upd H a o) { s with heap := h', toks := t' } := I.un (Un.laid k hp (I.hok.fresh hp)) (I.hok.laid k hp new)
theorem Inv.write {x e : Addr} {o : HO} {t' : Nat} (I : Inv X pins σ H s) (mu : Mut (H x)) (he : e = x ∨ H e = some (.own x)) (k : ∀ b u, b ≠ e → s.heap.get? b = some u → h'.get? b = some u) (heo : ∃ u, h'.get? e = some u)
    (new : ObjOk X.prog X.w (upd H x o) h' x o) : Inv X pins σ (upd H x o) { s with heap := h', toks := t' } := I.un (Un.write mu he k heo) (I.hok.write mu he k heo new)
theorem Inv.pins_of {pins' : List (Addr × Obj)} (I : Inv X pins σ H s) (h : ∀ p ∈ pins', s.heap.get? p.1 = some p.2 ∧ H p.1 = none ∧ p.1 ≠ X.env.locals ∧ p.1 ∉ X.fs ∧ ∀ v, p.2.data ≠ .cell v) : Inv X pins' σ H s :=
  ⟨I.ok, I.os, I.bare, I.base, I.loc, I.cell, I.free, I.freeC, fun p hp => (List.mem_append.mp hp).elim (fun z => I.pin p (List.mem_append_left _ z)) (h p), I.hok, I.len⟩
theorem nodup_ix {N : List Str} (hN : N.Nodup) {i j : Nat} {x : Str} (a : N[i]? = some x) (b : N[j]? = some x) : i = j := by
  obtain ⟨h1, e1⟩ := List.getElem?_eq_some_iff.mp a
  obtain ⟨h2, e2⟩ := List.getElem?_eq_some_iff.mp b
  exact (List.getElem_inj hN).mp (e1.trans e2.symm)
theorem store_ok2 {M : Model} {A : Around} {E : Value → Shared → Prop} {i : Nat} {x : Str} {v : V} {u : Value} {Q : Unit → Shared → Prop} (I : Inv X pins σ H s) (hN : X.N.Nodup) (hi : X.N[i]? = some x) (hx : Loc X.env.scope x) (r : RelV v u)
    (h : ∀ s', Inv X pins (σ.set i (some v)) H s' → (∃ a, Heap.SameBut a s.heap s'.heap ∧ (a = X.env.locals ∨ X.env.cells.lookup x = some a)) → Q () s') (hf : X.fn x = true ∨ X.env.scope.names.lookup x = some .local := by first | exact .inl rfl | exact .inr rfl | assumption) : wpAny M A (storeName X.env x u) Q E s := by
  obtain ⟨m, hn, hl⟩ := id I.loc
  have hcls : (X.env.scope.kind == .class || (X.env.scope.kind == .module && X.env.locals != X.env.globals)) = false := by rw [I.ok.kind]; rfl
  have hiσ : i < σ.length := by rw [I.len]; exact (List.getElem?_eq_some_iff.mp hi).1
  have cne := I.cne
  have tracked : ∀ {a : Addr} {h' : Heap}, (∃ o, s.heap.get? a = some o ∧ H a = none) → Heap.SameBut a s.heap h' → HOk X.prog X.w H h' := fun {a h'} ha hs b ob e => by
    obtain ⟨_, _, hfree⟩ := ha
    refine (I.hok b ob e).stay (fun c w' hc q => (hs.2 c ?_).trans q) (fun _ q => q) fun _ _ q => q
    rintro rfl
    rcases hc with rfl | hc
    · rw [hfree] at e; cases e
    · rw [hfree] at hc; cases hc
  rcases hx with hk | hk
  · refine wpAny_storeName_local hk hn (fun h' hn' hs => ?_) hcls
    obtain ⟨oL, _, _, hoL, _⟩ := id hn
    refine h _ ⟨I.ok, I.os, I.bare, ⟨fun b o e n hb hx => ?_, fun b o e n hb hx => ?_, I.base.free, fun b o e hx => ?_, I.base.tups, I.base.frzs, I.base.tbls⟩, ⟨_, hn', fun j y v' e1 e2 e3 => ?_⟩, fun y c e => ?_, I.free, I.freeC, fun p hp => ?_, tracked ⟨oL, hoL, I.free⟩ hs, by simpa using I.len⟩ ⟨_, hs, .inl rfl⟩
    · exact (hs.2 b (Nat.ne_of_lt (Nat.lt_of_lt_of_le (Heap.lt_size e) I.ok.above))).trans (I.base.keep b o e n hb hx)
    · obtain ⟨sl, e1⟩ := I.base.slot b o e n hb hx
      exact ⟨sl, (hs.2 b (Nat.ne_of_lt (Nat.lt_of_lt_of_le (Heap.lt_size e) I.ok.above))).trans e1⟩
    · obtain ⟨o', e1⟩ := I.base.there b o e hx
      exact ⟨o', (hs.2 b (Nat.ne_of_lt (Nat.lt_of_lt_of_le (Heap.lt_size e) I.ok.above))).trans e1⟩
    · by_cases hj : j = i
      · subst hj
        rw [hi] at e1; cases e1
        rw [List.getElem?_set_self hiσ] at e2
        cases e2
        exact ⟨u, r, .inl ⟨hk, by simp⟩⟩
      · rw [List.getElem?_set_ne (Ne.symm hj)] at e2
        obtain ⟨u', r', q⟩ := hl j y v' e1 e2 e3
        refine ⟨u', r', ?_⟩
        rcases q with ⟨k, e⟩ | ⟨k, c, e, z⟩
        · refine .inl ⟨k, ?_⟩
          have : y ≠ x := fun e => hj (nodup_ix hN e1 (e ▸ hi))
          simp [this, e]
        · exact .inr ⟨k, c, e, z.sameBut hs (cne y c e)⟩
    · obtain ⟨w', z⟩ := I.cell y c e
      exact ⟨w', z.sameBut hs (cne y c e)⟩
    · obtain ⟨e, n, ne, nf, d⟩ := I.pin p hp
      exact ⟨(hs.2 p.1 ne).trans e, n, ne, nf, d⟩
  · have hfn : X.fn x = true := by
      rcases hf with z | z
      · exact z
      · rw [z] at hk; cases hk
    obtain ⟨c, hc⟩ := I.ok.has x (.inl hk)
    obtain ⟨w', z⟩ := I.cell x c hc
    refine wpAny_storeName_cell I.ok.kind hk hc z (fun h' hc' hs => ?_)
    obtain ⟨oc, hoc, hocd⟩ := id z
    refine h { s with heap := h' } ⟨I.ok, I.os, I.bare, ⟨fun b o e n hb hx => ?_, fun b o e n hb hx => ?_, I.base.free, fun b o e hx => ?_, I.base.tups, I.base.frzs, I.base.tbls⟩, ⟨m, hn.sameBut hs (Ne.symm (cne x c hc)), fun j y v' e1 e2 e3 => ?_⟩, fun y c' e => ?_, I.free, I.freeC, fun p hp => ?_, tracked ⟨oc, hoc, I.freeC x c hc⟩ hs, by simpa using I.len⟩ ⟨c, hs, .inr hc⟩
    · exact (hs.2 b (Nat.ne_of_lt (Nat.lt_of_lt_of_le (Heap.lt_size e) (I.ok.cab x c hfn hc)))).trans (I.base.keep b o e n hb hx)
    · obtain ⟨sl, e1⟩ := I.base.slot b o e n hb hx
      exact ⟨sl, (hs.2 b (Nat.ne_of_lt (Nat.lt_of_lt_of_le (Heap.lt_size e) (I.ok.cab x c hfn hc)))).trans e1⟩
    · obtain ⟨o', e1⟩ := I.base.there b o e hx
      exact ⟨o', (hs.2 b (Nat.ne_of_lt (Nat.lt_of_lt_of_le (Heap.lt_size e) (I.ok.cab x c hfn hc)))).trans e1⟩
    · by_cases hj : j = i
      · subst hj
        rw [hi] at e1; cases e1
        rw [List.getElem?_set_self hiσ] at e2
        cases e2
        exact ⟨u, r, .inr ⟨.inl hk, c, hc, hc'⟩⟩
      · rw [List.getElem?_set_ne (Ne.symm hj)] at e2
        obtain ⟨u', r', q⟩ := hl j y v' e1 e2 e3
        refine ⟨u', r', ?_⟩
        rcases q with q | ⟨k, c', e, z'⟩
        · exact .inl q
        · refine .inr ⟨k, c', e, z'.sameBut hs ?_⟩
          rintro rfl
          exact hj (nodup_ix hN e1 (I.ok.inj _ _ _ e hc ▸ hi))
    · by_cases hcc : c' = c
      · subst hcc; exact ⟨_, hc'⟩
      · obtain ⟨w2, z2⟩ := I.cell y c' e
        exact ⟨w2, z2.sameBut hs hcc⟩
    · obtain ⟨e, n, ne, nf, d⟩ := I.pin p hp
      refine ⟨(hs.2 p.1 ?_).trans e, n, ne, nf, d⟩
      intro q
      rw [q, hoc] at e
      have q' : oc = p.2 := Option.some.inj e
      exact d w' (by rw [← q']; exact hocd)
theorem store_ok {M : Model} {A : Around} {E : Value → Shared → Prop} {i : Nat} {x : Str} {v : V} {u : Value} {Q : Unit → Shared → Prop} (I : Inv X pins σ H s) (hN : X.N.Nodup) (hi : X.N[i]? = some x) (hx : Loc X.env.scope x) (r : RelV v u)
    (h : ∀ s', Inv X pins (σ.set i (some v)) H s' → Q () s') (hf : X.fn x = true ∨ X.env.scope.names.lookup x = some .local := by first | exact .inl rfl | exact .inr rfl | assumption) : wpAny M A (storeName X.env x u) Q E s :=
  store_ok2 I hN hi hx r (fun s' I' _ => h s' I') hf
theorem Inv.call' {s' : Shared} {ch : List Addr} (I : Inv X pins σ H s) (ho : s'.os = s.os) (u : Un (frs X.stack) ch H H' s.heap s'.heap) (hok : HOk X.prog X.w H' s'.heap) (hg : AllBare s'.gens)
    (hch : ∀ b ∈ ch, (b ∈ X.ex ∨ X.s₀.heap.objs.size ≤ b) ∧ b ≠ X.env.locals ∧ (∀ x c, X.env.cells.lookup x = some c → c ≠ b) ∧ ∀ p ∈ X.pn ++ pins, p.1 ≠ b) : Inv X pins σ H' s' := by
  obtain ⟨h', g', d', t', o'⟩ := s'
  have e : o' = s.os := ho
  subst e
  exact I.call (g' := g') (t' := t') (d' := d') u hok hg hch
end
abbrev XK := Value → Option Addr → Hp → Prop
abbrev St := List (Option V)
abbrev VK := V → Hp → Prop
abbrev TE := St → Hp → VK → Prop
abbrev TT := St → Hp → (Bool → Hp → Prop) → Prop
abbrev TA := St → Hp → (List V → Hp → Prop) → Prop
structure Ends where
  nx : St → Hp → Prop
  rt : VK
  bk : St → Hp → Prop := fun _ _ => False
  ct : St → Hp → Prop := fun _ _ => False
abbrev TS := Ends → St → Hp → Prop
def EP (X : Cx) (pins : List (Addr × Obj)) (σ : St) (Q : VK) (u : Value) (s' : Shared) : Prop := ∃ v H', Inv X pins σ H' s' ∧ RelV v u ∧ Q v H'
def TP (X : Cx) (pins : List (Addr × Obj)) (σ : St) (Q : Bool → Hp → Prop) (b : Bool) (s' : Shared) : Prop := ∃ H', Inv X pins σ H' s' ∧ Q b H'
def AP (X : Cx) (pins : List (Addr × Obj)) (σ : St) (Q : List V → Hp → Prop) (us : List Value) (s' : Shared) : Prop := ∃ vs H', Inv X pins σ H' s' ∧ Vals vs us ∧ Q vs H'
def SP (X : Cx) (pins : List (Addr × Obj)) (D : Ends) (f : Flow) (s' : Shared) : Prop :=
  match f with
  | .next => ∃ σ' H', Inv X pins σ' H' s' ∧ D.nx σ' H'
  | .brk => ∃ σ' H', Inv X pins σ' H' s' ∧ D.bk σ' H'
  | .cont => ∃ σ' H', Inv X pins σ' H' s' ∧ D.ct σ' H'
  | .ret u => ∃ v σ' H', Inv X pins σ' H' s' ∧ RelV v u ∧ D.rt v H'
def PE (X : Cx) (e : Expr) (t : TE) : Prop :=
  ∀ (pins : List (Addr × Obj)) (s : Shared) (σ : St) (H : Hp) (Q : VK), Inv X pins σ H s → t σ H Q → wpAny (model X.prog X.w) X.A (eval e X.env) (EP X pins σ Q) X.xe s
def PT (X : Cx) (e : Expr) (t : TT) : Prop :=
  ∀ (pins : List (Addr × Obj)) (s : Shared) (σ : St) (H : Hp) (Q : Bool → Hp → Prop), Inv X pins σ H s → t σ H Q → wpAny (model X.prog X.w) X.A (isTrue e X.env (eval e X.env)) (TP X pins σ Q) X.xe s
def PW (X : Cx) (e : Expr) (t : TT) : Prop :=
  ∀ (whole : Sem Value) (pins : List (Addr × Obj)) (s : Shared) (σ : St) (H : Hp) (Q : Bool → Hp → Prop), Inv X pins σ H s → t σ H Q → wpAny (model X.prog X.w) X.A (isTrue e X.env whole) (TP X pins σ Q) X.xe s
theorem PW.pt {X : Cx} {e : Expr} {t : TT} (h : PW X e t) : PT X e t := h _
def PA (X : Cx) (es : List Expr) (t : TA) : Prop :=
  ∀ (pos : Pos) (pins : List (Addr × Obj)) (s : Shared) (σ : St) (H : Hp) (Q : List V → Hp → Prop), Inv X pins σ H s → t σ H Q → wpAny (model X.prog X.w) X.A (spliced (backTo pos (starEach es X.env))) (AP X pins σ Q) X.xe s
def PS (X : Cx) (st : Stmt) (t : TS) : Prop :=
  ∀ (pins : List (Addr × Obj)) (s : Shared) (σ : St) (H : Hp) (D : Ends), Inv X pins σ H s → t D σ H → wpAny (model X.prog X.w) X.A (exec st X.env) (SP X pins D) X.xe s
def PSs (X : Cx) (st : List Stmt) (t : TS) : Prop :=
  ∀ (pins : List (Addr × Obj)) (s : Shared) (σ : St) (H : Hp) (D : Ends), Inv X pins σ H s → t D σ H → wpAny (model X.prog X.w) X.A (execs st X.env) (SP X pins D) X.xe s
theorem thn {α : Type} {t : Sem α} {Q Q' : α → Shared → Prop} {M : Model} {A : Around} {E : Value → Shared → Prop} {s : Shared} (h : wpAny M A t Q E s) (hQ : ∀ a s, Q a s → Q' a s) : wpAny M A t Q' E s := wpAny_mono h hQ fun _ _ x => x
end L2
namespace L2
open PySem PySem.Spec PyProof.Rows
section
variable {X : Cx}
def tVar (i : Nat) : TE := fun σ H Q => ∃ v, σ[i]? = some (some v) ∧ Q v H
def tC (v : V) : TE := fun _ H Q => Q v H
theorem pe_var {i : Nat} {x : Str} {pos : Pos} (hN : X.N[i]? = some x) (hv : Vis X.env.scope x) (hd : (x == ("__debug__" : Str)) = false := by decide) (hcd : (x == ("__classdict__" : Str)) = false := by decide) : PE X (.Name x pos) (tVar i) := by
  intro pins s σ H Q I h
  obtain ⟨v, e, h⟩ := h
  obtain ⟨m, hn, hl⟩ := I.loc
  obtain ⟨u, r, l⟩ := hl i x v hN e hv
  have fin : EP X pins σ Q u s := ⟨v, H, I, r, h⟩
  rcases l with ⟨hk, hm⟩ | ⟨hk, c, hc, hcell⟩
  · exact wpAny_Name (wpAny_loadName_local I.ok.kind hk hn hm fin) hd
  · rcases hk with hk | hk
    · exact wpAny_Name (wpAny_loadName_cell I.ok.kind hk hc hcell fin) hd
    · exact wpAny_Name (wpAny_loadName_free I.ok.kind hk hc hcell fin hcd) hd
theorem pe_int {i j pos} : PE X (.Constant (.int i) j pos) (tC (.int i)) := fun _ _ _ H _ I h => wpAny_Constant_int ⟨.int i, H, I.tok _, ⟨_, rfl⟩, h⟩
theorem pe_bl {b j pos} : PE X (.Constant (.bool b) j pos) (tC (.bl b)) := fun _ _ _ H _ I h => Constant_bool ⟨.bl b, H, I, rfl, h⟩
theorem pe_non {j pos} : PE X (.Constant .none j pos) (tC .non) := fun _ _ _ H _ I h => Constant_none ⟨.non, H, I, rfl, h⟩
theorem pe_str {x j pos} : PE X (.Constant (.str x) j pos) (tC (.str x)) := fun _ _ _ H _ I h => Calls.Constant_str ⟨.str x, H, I.tok _, ⟨_, rfl⟩, h⟩
def Gl (X : Cx) (x : Str) : Prop := X.env.kindOf x = some .globalImplicit
theorem ld_glob {E : Value → Shared → Prop} {pins : List (Addr × Obj)} {s : Shared} {σ : St} {H : Hp} {x : Str} {u : Value} {pos : Pos} {Q : Value → Shared → Prop} (I : Inv X pins σ H s) (hg : Gl X x) (hm : X.mg x = some u) (h : Q u s)
    (hd : (x == ("__debug__" : Str)) = false := by decide) : wpAny (model X.prog X.w) X.A (eval (.Name x pos) X.env) Q E s :=
  Calls.Name_function_global I.ok.kind hg (Calls.loadGlobal_global (by rw [I.ok.glob]; exact I.mod.glob.keeps I.bk) hm h) hd
theorem ld_blt {E : Value → Shared → Prop} {pins : List (Addr × Obj)} {s : Shared} {σ : St} {H : Hp} {x : Str} {u : Value} {pos : Pos} {Q : Value → Shared → Prop} (I : Inv X pins σ H s) (hg : Gl X x) (hm : X.mg x = none) (hv : bootBuiltins x = some u) (h : Q u s)
    (hn : x ≠ "__name__" := by decide) (hd : (x == ("__debug__" : Str)) = false := by decide) : wpAny (model X.prog X.w) X.A (eval (.Name x pos) X.env) Q E s := by
  obtain ⟨mb, h1, h2⟩ := I.mod.blt
  exact Calls.Name_function_global I.ok.kind hg (Calls.loadGlobal_builtin (by rw [I.ok.glob]; exact I.mod.glob.keeps I.bk) hm (by rw [I.ok.blt]; exact h1.keeps I.bk) ((h2 x hn).trans hv) h) hd
theorem pe_glob {x : Str} {v : V} {u : Value} {pos : Pos} (hg : Gl X x) (hm : X.mg x = some u) (r : RelV v u) (hd : (x == ("__debug__" : Str)) = false := by decide) : PE X (.Name x pos) (tC v) :=
  fun _ _ _ H _ I h => ld_glob I hg hm ⟨v, H, I, r, h⟩ hd
theorem pe_bltn {x : Str} {v : V} {u : Value} {pos : Pos} (hg : Gl X x) (hm : X.mg x = none) (hv : bootBuiltins x = some u) (r : RelV v u) (hn : x ≠ "__name__" := by decide) (hd : (x == ("__debug__" : Str)) = false := by decide) : PE X (.Name x pos) (tC v) :=
  fun _ _ _ H _ I h => ld_blt I hg hm hv ⟨v, H, I, r, h⟩ hn hd
variable {a b : Expr} {ta tb : TE} {pos : Pos}
def tB (t : TE) : TT := fun σ H Q => t σ H fun x H1 => ∃ c, x = .bl c ∧ Q c H1
theorem pt_val {e : Expr} {t : TE} (h : PE X e t) (he : ∀ whole, isTrue e X.env whole = (do let v ← whole; standAt e.pos; holding [v] (truthy v)) := by intro _; rfl) : PT X e (tB t) := by
  intro pins s σ H Q I hw
  refine isTrue_plain (thn (h pins s σ H _ I hw) fun v s1 ⟨x, H1, I1, r1, q1⟩ => ?_) (he _)
  obtain ⟨d, rfl, q⟩ := q1
  cases r1
  exact wpAny_truthy_bool ⟨H1, I1, q⟩
variable {tA tB' : TT} {rest : List Expr}
def tAnd (t u : TT) : TT := fun σ H Q => t σ H fun c H1 => if c = true then u σ H1 Q else Q false H1
def tOr (t u : TT) : TT := fun σ H Q => t σ H fun c H1 => if c = true then Q true H1 else u σ H1 Q
def tNot (t : TT) : TT := fun σ H Q => t σ H fun c H1 => Q (!c) H1
theorem pw_and1 (ha : PT X a tA) : PW X (.BoolOp .And [a] pos) tA := by
  intro wh pins s σ H Q I h
  refine isTrue_and (thn (ha pins s σ H Q I h) fun c s1 e => ?_)
  cases c with
  | true => exact isTrue_and_nil e
  | false => exact e
theorem pw_or1 (ha : PT X a tA) : PW X (.BoolOp .Or [a] pos) tA := by
  intro wh pins s σ H Q I h
  refine isTrue_or (thn (ha pins s σ H Q I h) fun c s1 e => ?_)
  cases c with
  | false => exact isTrue_or_nil e
  | true => exact e
theorem pw_and (ha : PT X a tA) (hb : PW X (.BoolOp .And (b :: rest) pos) tB') : PW X (.BoolOp .And (a :: b :: rest) pos) (tAnd tA tB') := by
  intro wh pins s σ H Q I h
  refine isTrue_and (thn (ha pins s σ H _ I h) fun c s1 ⟨H1, I1, q1⟩ => ?_)
  cases c with
  | true => exact hb wh pins s1 σ H1 Q I1 q1
  | false => exact ⟨H1, I1, q1⟩
theorem pw_or (ha : PT X a tA) (hb : PW X (.BoolOp .Or (b :: rest) pos) tB') : PW X (.BoolOp .Or (a :: b :: rest) pos) (tOr tA tB') := by
  intro wh pins s σ H Q I h
  refine isTrue_or (thn (ha pins s σ H _ I h) fun c s1 ⟨H1, I1, q1⟩ => ?_)
  cases c with
  | true => exact ⟨H1, I1, q1⟩
  | false => exact hb wh pins s1 σ H1 Q I1 q1
theorem pt_not (ha : PT X a tA) : PT X (.UnaryOp .Not a pos) (tNot tA) := by
  intro pins s σ H Q I h
  exact isTrue_not (ha pins s σ H (fun c H1 => Q (!c) H1) I h)
def tAndV (ta tb : TE) : TE := fun σ H Q => ta σ H fun x H1 => ∃ c, x = .bl c ∧ if c = true then tb σ H1 Q else Q (.bl false) H1
def tOrV (ta tb : TE) : TE := fun σ H Q => ta σ H fun x H1 => ∃ c, x = .bl c ∧ if c = true then Q (.bl true) H1 else tb σ H1 Q
def tNotV (ta : TE) : TE := fun σ H Q => ta σ H fun x H1 => ∃ c, x = .bl c ∧ Q (.bl (!c)) H1
theorem pe_one {op} {t : TE} (h : PE X a t) : PE X (.BoolOp op [a] pos) t := fun pins s σ H Q I hw => BoolOp_one (h pins s σ H Q I hw)
theorem pe_and (ha : PE X a ta) (hb : PE X (.BoolOp .And (b :: rest) pos) tb) : PE X (.BoolOp .And (a :: b :: rest) pos) (tAndV ta tb) := by
  intro pins s σ H Q I h
  refine BoolOp_and (thn (ha pins s σ H _ I h) fun v s1 ⟨x, H1, I1, r1, q1⟩ => ?_)
  obtain ⟨c, rfl, q1⟩ := q1
  cases r1
  refine wpAny_truthy_bool ?_
  cases c with
  | true => exact hb pins s1 σ H1 Q I1 q1
  | false => exact ⟨.bl false, H1, I1, rfl, q1⟩
theorem pe_or (ha : PE X a ta) (hb : PE X (.BoolOp .Or (b :: rest) pos) tb) : PE X (.BoolOp .Or (a :: b :: rest) pos) (tOrV ta tb) := by
  intro pins s σ H Q I h
  refine BoolOp_or (thn (ha pins s σ H _ I h) fun v s1 ⟨x, H1, I1, r1, q1⟩ => ?_)
  obtain ⟨c, rfl, q1⟩ := q1
  cases r1
  refine wpAny_truthy_bool ?_
  cases c with
  | false => exact hb pins s1 σ H1 Q I1 q1
  | true => exact ⟨.bl true, H1, I1, rfl, q1⟩
theorem pe_not (ha : PE X a ta) : PE X (.UnaryOp .Not a pos) (tNotV ta) := by
  intro pins s σ H Q I h
  refine UnaryOp_ (thn (ha pins s σ H _ I h) fun v s1 ⟨x, H1, I1, r1, q1⟩ => ?_)
  obtain ⟨c, rfl, q1⟩ := q1
  cases r1
  exact not_of (wpAny_truthy_bool ⟨.bl (!c), H1, I1, rfl, q1⟩)
def tIf (t : TT) (ta tb : TE) : TE := fun σ H Q => t σ H fun c H1 => if c = true then ta σ H1 Q else tb σ H1 Q
theorem pe_ifExp {c : Expr} (hc : PT X c tA) (ha : PE X a ta) (hb : PE X b tb) : PE X (.IfExp c a b pos) (tIf tA ta tb) := by
  intro pins s σ H Q I h
  refine wpAny_IfExp (thn (hc pins s σ H _ I h) fun d s1 ⟨H1, I1, q1⟩ => ?_)
  cases d with
  | true => exact ha pins s1 σ H1 Q I1 q1
  | false => exact hb pins s1 σ H1 Q I1 q1
end
end L2
namespace L2
open PySem PySem.Spec PyProof.Rows
def SqL (K : PySem.W.Frag) (H : Hp) (a : Addr) (xs : List V) : Prop :=
  Rd H a (.lst xs) ∨
    ∃ (o : Obj) (its : Array Value) (n : Nat), K.lookup a = some o ∧ o.cls = .type "list" ∧ o.dict = none ∧ o.data = .seq its n ∧ its.size ≤ sizeLine ∧ Vals xs its.toList
def SqT (K : PySem.W.Frag) (H : Hp) (a : Addr) (xs : List V) : Prop :=
  Rd H a (.tup xs) ∨
    ∃ (o : Obj) (its : Array Value) (n : Nat), K.lookup a = some o ∧ o.cls = .type "tuple" ∧ o.data = .seq its n ∧ its.size ≤ sizeLine ∧ Vals xs its.toList
def absV : Value → Option V
  | .none => some .non
  | .bool b => some (.bl b)
  | .int i _ => some (.int i)
  | .str x _ => some (.str x)
  | .bytes b _ => some (.byt b)
  | .float b _ => some (.flt b)
  | .ref a => some (.ref a)
  | .type n => some (.ty n)
  | _ => none
theorem RelV.abs {x : V} {u : Value} (r : RelV x u) : absV u = some x := by
  cases x with
  | non => cases r; rfl
  | bl _ => cases r; rfl
  | int _ => obtain ⟨t, rfl⟩ := r; rfl
  | str _ => obtain ⟨t, rfl⟩ := r; rfl
  | byt _ => obtain ⟨t, rfl⟩ := r; rfl
  | flt _ => obtain ⟨t, rfl⟩ := r; rfl
  | ref _ => cases r; rfl
  | ty _ => cases r; rfl
theorem RelV.inj {x y : V} {u : Value} (r : RelV x u) (q : RelV y u) : x = y := Option.some.inj (r.abs.symm.trans q.abs)
theorem Vals.inj : ∀ {xs ys : List V} {us : List Value}, Vals xs us → Vals ys us → xs = ys
  | _, _, _, .nil, .nil => rfl
  | _, _, _, .cons r t, .cons r' t' => by rw [r.inj r', Vals.inj t t']
section
variable {X : Cx} {pins : List (Addr × Obj)} {σ : St} {H : Hp} {s : Shared} {a : Addr} {xs ys : List V}
theorem SqL.of {K : PySem.W.Frag} (h : H a = some (.lst xs)) : SqL K H a xs := .inl (.inl h)
theorem SqT.of {K : PySem.W.Frag} (h : H a = some (.tup xs)) : SqT K H a xs := .inl (.inl h)
theorem Inv.list (I : Inv X pins σ H s) (h : SqL X.K H a xs) : ∃ its : List Value, Vals xs its ∧ PlainL s.heap a its.toArray ∧ xs.length ≤ sizeLine := by
  rcases h with h | ⟨o, its, n, hk, hc, hd, hs, hz, r⟩
  · obtain ⟨z, its, n, r, e⟩ := h.ok I.hok
    exact ⟨its, r, ⟨_, n, e, rfl, rfl, rfl⟩, z⟩
  · refine ⟨its.toList, r, ⟨o, n, I.kIn a o hk, hc, hd, by simpa using hs⟩, ?_⟩
    have e := r.length
    simp only [Array.length_toList] at e
    omega
theorem Inv.tuple (I : Inv X pins σ H s) (h : SqT X.K H a xs) : ∃ its : List Value, Vals xs its ∧ IsTup s.heap a its.toArray ∧ xs.length ≤ sizeLine := by
  rcases h with h | ⟨o, its, n, hk, hc, hs, hz, r⟩
  · obtain ⟨z, its, r, p⟩ := h.ok I.hok
    exact ⟨its, r, p, z⟩
  · refine ⟨its.toList, r, ⟨o, I.kIn a o hk, hc, n, by simpa using hs⟩, ?_⟩
    have e := r.length
    simp only [Array.length_toList] at e
    omega
theorem Inv.list_inj (I : Inv X pins σ H s) (h : SqL X.K H a xs) (h' : SqL X.K H a ys) : xs = ys := by
  obtain ⟨its, r, ⟨o, n, e, _, _, d⟩, _⟩ := I.list h
  obtain ⟨its', r', ⟨o', n', e', _, _, d'⟩, _⟩ := I.list h'
  rw [e] at e'; cases e'
  rw [d] at d'
  injection d' with d1 _
  have : its = its' := by simpa using congrArg Array.toList d1
  subst this
  exact r.inj r'
theorem Inv.tuple_inj (I : Inv X pins σ H s) (h : SqT X.K H a xs) (h' : SqT X.K H a ys) : xs = ys := by
  obtain ⟨its, r, ⟨o, e, _, n, d⟩, _⟩ := I.tuple h
  obtain ⟨its', r', ⟨o', e', _, n', d'⟩, _⟩ := I.tuple h'
  rw [e] at e'; cases e'
  rw [d] at d'
  injection d' with d1 _
  have : its = its' := by simpa using congrArg Array.toList d1
  subst this
  exact r.inj r'
end
abbrev Cx.wish (X : Cx) (E : Value → Shared → Prop) : Cx := { X with xe := E }
abbrev Cx.nox (X : Cx) : Cx := X.wish fun _ _ => False
theorem Cx.Ok.wish {X : Cx} (ok : X.Ok) (E : Value → Shared → Prop) : (X.wish E).Ok :=
  ⟨ok.mod, ok.kind, ok.glob, ok.blt, ok.above, ok.inj, ok.has, ok.cab, ok.hd, ok.frames, ok.stk, ok.exf, ok.bs, ok.bsz, ok.noex, ok.exfs, ok.funs, ok.frf⟩
theorem Cx.Ok.unwish {X : Cx} {E : Value → Shared → Prop} (ok : (X.wish E).Ok) : X.Ok :=
  ⟨ok.mod, ok.kind, ok.glob, ok.blt, ok.above, ok.inj, ok.has, ok.cab, ok.hd, ok.frames, ok.stk, ok.exf, ok.bs, ok.bsz, ok.noex, ok.exfs, ok.funs, ok.frf⟩
section
variable {X : Cx} {pins : List (Addr × Obj)} {σ : St} {H : Hp} {s : Shared} {E : Value → Shared → Prop}
theorem Inv.wish (I : Inv X pins σ H s) (E : Value → Shared → Prop) : Inv (X.wish E) pins σ H s := ⟨I.ok.wish E, I.os, I.bare, I.base, I.loc, I.cell, I.free, I.freeC, I.pin, I.hok, I.len⟩
theorem Inv.unwish (I : Inv (X.wish E) pins σ H s) : Inv X pins σ H s := ⟨I.ok.unwish, I.os, I.bare, I.base, I.loc, I.cell, I.free, I.freeC, I.pin, I.hok, I.len⟩
theorem SP.unwish {D : Ends} {f : Flow} {s' : Shared} (h : SP (X.wish E) pins D f s') : SP X pins D f s' := by
  cases f with
  | next => obtain ⟨σ', H', I, q⟩ := h; exact ⟨σ', H', I.unwish, q⟩
  | brk => obtain ⟨σ', H', I, q⟩ := h; exact ⟨σ', H', I.unwish, q⟩
  | cont => obtain ⟨σ', H', I, q⟩ := h; exact ⟨σ', H', I.unwish, q⟩
  | ret u => obtain ⟨v, σ', H', I, r, q⟩ := h; exact ⟨v, σ', H', I.unwish, r, q⟩
theorem PSs.nox {st : List Stmt} {t : TS} (h : PSs X.nox st t) : PSs X st t := fun pins s σ H D I hw =>
  wpAny_mono (h pins s σ H D (I.wish _) hw) (fun _ _ q => q.unwish) fun _ _ z => False.elim z
end
section
variable {X : Cx} {st : Stmt} {rest : List Stmt} {t u : TS} {e : Expr} {te : TE} {pos : Pos}
def tNext : TS := fun D σ H => D.nx σ H
def tSeq (t u : TS) : TS := fun D σ H => t { D with nx := u D } σ H
theorem pss_nil : PSs X [] tNext := fun _ _ σ H _ I h => wpAny_execs_nil ⟨σ, H, I, h⟩
theorem pss_cons (h1 : PS X st t) (h2 : PSs X rest u) : PSs X (st :: rest) (tSeq t u) := by
  intro pins s σ H D I h
  refine wpAny_execs_cons (thn (h1 pins s σ H { D with nx := u D } I h) fun f s1 q => ?_)
  cases f with
  | next =>
    obtain ⟨σ', H', I', q⟩ := q
    exact h2 pins s1 σ' H' D I' q
  | ret v => exact q
  | brk => exact q
  | cont => exact q
theorem pss_one (h1 : PS X st t) : PSs X [st] t := by
  intro pins s σ H D I h
  refine wpAny_execs_cons (thn (h1 pins s σ H D I h) fun f s1 q => ?_)
  cases f with
  | next => exact wpAny_execs_nil q
  | ret v => exact q
  | brk => exact q
  | cont => exact q
theorem Inv.quiet {pins : List (Addr × Obj)} {σ : St} {H : Hp} {s : Shared} (I : Inv X pins σ H s) : interactive X.env = false := by simp [interactive, I.ok.kind]
def tDrop (te : TE) : TS := fun D σ H => te σ H fun _ H1 => D.nx σ H1
theorem ps_expr (he : PE X e te) (hs : swapsWith e none pos.line X.env = pure false := by rfl) : PS X (.Expr e pos) (tDrop te) := by
  intro pins s σ H D I h
  exact wpAny_Expr_any (thn (he pins s σ H _ I h) fun v s1 ⟨x, H1, I1, r1, q1⟩ => ⟨σ, H1, I1, q1⟩) I.quiet hs
def tRet (te : TE) : TS := fun D σ H => te σ H D.rt
theorem ps_ret (he : PE X e te) : PS X (.Return (some e) pos) (tRet te) := by
  intro pins s σ H D I h
  exact wpAny_Return_some (thn (he pins s σ H _ I h) fun v s1 ⟨x, H1, I1, r1, q1⟩ => ⟨x, σ, H1, I1, r1, q1⟩)
def tIfS (c : TT) (t u : TS) : TS := fun D σ H => c σ H fun b H1 => if b = true then t D σ H1 else u D σ H1
theorem ps_if {c : Expr} {a b : List Stmt} {tc : TT} (hc : PT X c tc) (ha : PSs X a t) (hb : PSs X b u) : PS X (.If c a b pos) (tIfS tc t u) := by
  intro pins s σ H D I h
  refine wpAny_If (thn (hc pins s σ H _ I h) fun d s1 ⟨H1, I1, q1⟩ => ?_)
  cases d with
  | true => exact ha pins s1 σ H1 D I1 q1
  | false => exact hb pins s1 σ H1 D I1 q1
def tNever : TS := fun _ _ _ => False
theorem ps_never : PS X st tNever := fun _ _ _ _ _ _ h => h.elim
end
abbrev TG := V → St → Hp → (St → Hp → Prop) → Prop
abbrev TGs := List V → St → Hp → (St → Hp → Prop) → Prop
def PG (X : Cx) (target : Expr) (t : TG) : Prop :=
  ∀ (pins : List (Addr × Obj)) (s : Shared) (σ : St) (H : Hp) (v : V) (u : Value) (Q : St → Hp → Prop), Inv X pins σ H s → RelV v u → t v σ H Q →
    wpAny (model X.prog X.w) X.A (assign target X.env u) (fun _ s' => ∃ σ' H', Inv X pins σ' H' s' ∧ Q σ' H') X.xe s
def PGs (X : Cx) (ts : List Expr) (t : TGs) : Prop :=
  ∀ (pins : List (Addr × Obj)) (s : Shared) (σ : St) (H : Hp) (vs : List V) (us : List Value) (Q : St → Hp → Prop), Inv X pins σ H s → Vals vs us → t vs σ H Q →
    wpAny (model X.prog X.w) X.A (assignInOrder ((assignEach ts X.env).map (·.2)) us) (fun _ s' => ∃ σ' H', Inv X pins σ' H' s' ∧ Q σ' H') X.xe s
abbrev TSet := V → V → V → Hp → (Hp → Prop) → Prop
def PSet (X : Cx) (t : TSet) : Prop :=
  ∀ (pins : List (Addr × Obj)) (s : Shared) (σ : St) (H : Hp) (o i v : V) (ov iv u : Value) (Q : Hp → Prop), Inv X pins σ H s → RelV o ov → RelV i iv → RelV v u → t o i v H Q →
    wpAny (model X.prog X.w) X.A (setItem ov iv u) (fun _ s' => ∃ H', Inv X pins σ H' s' ∧ Q H') X.xe s
abbrev TIp := V → V → Hp → VK → Prop
def PIp (X : Cx) (op : Operator) (t : TIp) : Prop :=
  ∀ (pins : List (Addr × Obj)) (s : Shared) (σ : St) (H : Hp) (x y : V) (v u : Value) (Q : VK), Inv X pins σ H s → RelV x v → RelV y u → t x y H Q →
    wpAny (model X.prog X.w) X.A (inplaceOp op v u) (EP X pins σ Q) X.xe s
section
variable {X : Cx} {pos : Pos}
def gName (i : Nat) : TG := fun v σ H Q => Q (σ.set i (some v)) H
theorem pg_name {i : Nat} {x : Str} (hN : X.N.Nodup) (hi : X.N[i]? = some x) (hx : Loc X.env.scope x) (hf : X.fn x = true ∨ X.env.scope.names.lookup x = some .local := by first | exact .inl rfl | exact .inr rfl | assumption) : PG X (.Name x pos) (gName i) := by
  intro pins s σ H v u Q I r h
  exact wpAny_assign_Name (store_ok I hN hi hx r (fun s' I' => ⟨_, H, I', h⟩) hf)
def gNil : TGs := fun vs σ H Q => vs = [] ∧ Q σ H
def gCons (t : TG) (u : TGs) : TGs := fun vs σ H Q => ∃ v r, vs = v :: r ∧ t v σ H fun σ' H' => u r σ' H' Q
theorem pgs_nil : PGs X [] gNil := by
  intro pins s σ H vs us Q I r h
  obtain ⟨e, h⟩ := h
  subst e
  cases r
  exact assignInOrder_nil ⟨σ, H, I, h⟩
theorem pgs_cons {e : Expr} {es : List Expr} {t : TG} {u : TGs} (h1 : PG X e t) (h2 : PGs X es u)
    (hs : (assignEach (e :: es) X.env).map (·.2) = assign e X.env :: (assignEach es X.env).map (·.2) := by rfl) : PGs X (e :: es) (gCons t u) := by
  intro pins s σ H vs us Q I r h
  obtain ⟨v, vr, e1, h⟩ := h
  subst e1
  cases r with
  | cons r rr =>
    rw [hs]
    refine assignInOrder_cons (thn (h1 pins s σ H _ _ _ I r h) fun _ s1 ⟨σ1, H1, I1, q1⟩ => ?_)
    exact h2 pins s1 σ1 H1 _ _ Q I1 rr q1
def gTup (K : PySem.W.Frag) (n : Nat) (t : TGs) : TG := fun v σ H Q => ∃ a xs, v = .ref a ∧ SqT K H a xs ∧ xs.length = n ∧ t xs σ H Q
theorem pg_tup {es : List Expr} {k : Nat} {t : TGs} {n : Nat} (hc : X.calm = true) (h : PGs X es t)
    (hn : (assignEach es X.env).length = n := by rfl) (hst : (assignEach es X.env).findIdx? (·.1) = none := by rfl) : PG X (.Tuple es k pos) (gTup X.K n t) := by
  intro pins s σ H v u Q I r hw
  obtain ⟨a, xs, e1, hq, hl, hw⟩ := hw
  subst e1
  cases r
  obtain ⟨its, rv, ht, hz⟩ := I.tuple hq
  refine assign_Tuple_tuple (I.ok.hd hc) ht (by simp [hn, ← hl, rv.length]) hst fun h' hx => ?_
  have I1 : Inv X pins σ H { s with heap := h' } := I.kept (t' := s.toks) fun b o e => hx b o (Nat.ne_of_lt (Heap.lt_size e)) e
  exact h pins _ σ H xs _ Q I1 (by simpa using rv) hw
def gSub (to ti : TE) (t : TSet) : TG := fun v σ H Q => to σ H fun o H1 => ti σ H1 fun i H2 => t o i v H2 fun H3 => Q σ H3
theorem pg_sub {o i : Expr} {to ti : TE} {t : TSet} (ho : PE X o to) (hi : PE X i ti) (hs : PSet X t)
    (ha : ∀ v, assign (.Subscript o i pos) X.env v = (do
      let ov ← holding [v] (eval o X.env)
      let iv ← holding [v, ov] (eval i X.env)
      standAt pos
      holding [v, ov, iv] (setItem ov iv v)
      release [v, ov, iv] []) := by intro _; rfl) : PG X (.Subscript o i pos) (gSub to ti t) := by
  intro pins s σ H v u Q I r h
  rw [ha]
  refine wpAny_bind (wpAny_holding (thn (ho pins s σ H _ I h) fun ov s1 ⟨x, H1, I1, r1, q1⟩ => ?_))
  refine wpAny_bind (wpAny_holding (thn (hi pins s1 σ H1 _ I1 q1) fun iv s2 ⟨y, H2, I2, r2, q2⟩ => ?_))
  refine wpAny_bind (wpAny_standAt (wpAny_bind (wpAny_holding (thn (hs pins s2 σ H2 x y v ov iv u _ I2 r1 r2 r q2) fun _ s3 ⟨H3, I3, q3⟩ => ?_))))
  exact wpAny_release ⟨σ, H3, I3, q3⟩
def tAsg (te : TE) (g : TG) : TS := fun D σ H => te σ H fun x H1 => g x σ H1 D.nx
theorem ps_asg {tg e : Expr} {te : TE} {g : TG} (he : PE X e te) (hg : PG X tg g) (hs : swapsWithSole [tg] e pos.line X.env = pure false := by rfl) (hw : swappedStores [tg] e X.env = pure none := by rfl)
    (h1 : (assignEach [tg] X.env).map (·.2) = [assign tg X.env] := by rfl) : PS X (.Assign [tg] e pos) (tAsg te g) := by
  intro pins s σ H D I h
  refine wpAny_Assign_stores (thn (he pins s σ H _ I h) fun v s1 ⟨x, H1, I1, r1, q1⟩ => ?_) hs hw
  rw [h1]
  exact thn (hg pins s1 σ H1 x v _ I1 r1 q1) fun _ s2 q => q
theorem ps_set {i : Nat} {x : Str} {e : Expr} {te : TE} {pos' : Pos} (hN : X.N.Nodup) (hi : X.N[i]? = some x) (hx : Loc X.env.scope x) (he : PE X e te) (hs : swapsWith e (some (.Name x pos')) pos.line X.env = pure false := by rfl) (hf : X.fn x = true ∨ X.env.scope.names.lookup x = some .local := by first | exact .inl rfl | exact .inr rfl | assumption) :
    PS X (.Assign [.Name x pos'] e pos) (tAsg te (gName i)) := by
  intro pins s σ H D I h
  refine wpAny_Assign_Name (thn (he pins s σ H _ I h) fun v s1 ⟨y, H1, I1, r1, q1⟩ => ?_) hs
  exact store_ok I1 hN hi hx r1 (fun s2 I2 => ⟨_, H1, I2, q1⟩) hf
def tAug (i : Nat) (te : TE) (ti : TIp) : TS := fun D σ H => ∃ x, σ[i]? = some (some x) ∧ te σ H fun y H1 => ti x y H1 fun z H2 => D.nx (σ.set i (some z)) H2
theorem ps_aug {i : Nat} {x : Str} {e : Expr} {te : TE} {op : Operator} {ti : TIp} {pos' : Pos} (hN : X.N.Nodup) (hi : X.N[i]? = some x) (hx : Loc X.env.scope x) (he : PE X e te) (ho : PIp X op ti) (hf : X.fn x = true ∨ X.env.scope.names.lookup x = some .local := by first | exact .inl rfl | exact .inr rfl | assumption) :
    PS X (.AugAssign (.Name x pos') op e pos) (tAug i te ti) := by
  intro pins s σ H D I h
  obtain ⟨v, e1, h⟩ := h
  obtain ⟨m, hn, hl⟩ := I.loc
  have vis : Vis X.env.scope x := by rcases hx with k | k; exact .inl k; exact .inr (.inl k)
  obtain ⟨u, r, l⟩ := hl i x v hi e1 vis
  refine wpAny_AugAssign_Name ?_
  have go : wpAny (model X.prog X.w) X.A (eval e X.env) (fun w s₂ => wpAny (model X.prog X.w) X.A (inplaceOp op u w) (fun r s₃ => wpAny (model X.prog X.w) X.A (storeName X.env x r) (fun _ => SP X pins D .next) X.xe s₃) X.xe s₂) X.xe s := by
    refine thn (he pins s σ H _ I h) fun w s1 ⟨y, H1, I1, r1, q1⟩ => ?_
    refine thn (ho pins s1 σ H1 v y u w _ I1 r r1 q1) fun z s2 ⟨zv, H2, I2, r2, q2⟩ => ?_
    exact store_ok I2 hN hi hx r2 (fun s3 I3 => ⟨_, H2, I3, q2⟩) hf
  rcases l with ⟨hk, hm⟩ | ⟨hk, c, hc, hcell⟩
  · exact wpAny_loadName_local I.ok.kind hk hn hm go
  · rcases hk with hk | hk
    · exact wpAny_loadName_cell I.ok.kind hk hc hcell go
    · rcases hx with k | k
      · have : X.env.scope.names.lookup x = some .free := hk
        rw [k] at this; cases this
      · have : X.env.scope.names.lookup x = some .free := hk
        rw [k] at this; cases this
def ipI (f : Int → Int → Int) : TIp := fun x y H Q => ∃ i j, x = .int i ∧ y = .int j ∧ Q (.int (f i j)) H
theorem ip_add : PIp X .Add (ipI fun i j => i + j) := by
  intro pins s σ H x y v u Q I r1 r2 h
  obtain ⟨i, j, e1, e2, q⟩ := h
  subst e1; subst e2
  obtain ⟨t, rfl⟩ := r1
  obtain ⟨t', rfl⟩ := r2
  exact iadd_int ⟨.int _, H, I.tok _, ⟨_, rfl⟩, q⟩
theorem ip_sub : PIp X .Sub (ipI fun i j => i - j) := by
  intro pins s σ H x y v u Q I r1 r2 h
  obtain ⟨i, j, e1, e2, q⟩ := h
  subst e1; subst e2
  obtain ⟨t, rfl⟩ := r1
  obtain ⟨t', rfl⟩ := r2
  exact isub_int ⟨.int _, H, I.tok _, ⟨_, rfl⟩, q⟩
end
section
variable {X : Cx} {pos : Pos}
def tWhile (c : TT) (tb : TS) : TS := fun D σ H => ∃ W : Nat → St → Hp → Prop, (∃ m, W m σ H) ∧ ∀ m σ H, W m σ H →
  c σ H fun b H1 => if b = true then ∃ N : St → Hp → Prop, (∀ σ' H', N σ' H' → ∃ m', m' < m ∧ W m' σ' H') ∧ tb { D with nx := N, ct := N, bk := D.nx } σ H1 else D.nx σ H1
theorem ps_while {c : Expr} {body : List Stmt} {tc : TT} {tb : TS} (hp : PassesOwn (model X.prog X.w) X.A X.env X.xe) (hc : PT X c tc) (hb : PSs X body tb) : PS X (.While c body [] pos) (tWhile tc tb) := by
  intro pins s σ H D I h
  obtain ⟨W, ⟨m0, w0⟩, turn⟩ := h
  refine wpAny_While (codeAny_whileLoop (fun n s' => ∃ σ' H', Inv X pins σ' H' s' ∧ W n σ' H') ?_ m0 ⟨σ, H, I, w0⟩)
  rintro n s1 ⟨σ1, H1, I1, w1⟩
  refine wpAny_passesOwn hp (thn (hc pins s1 σ1 H1 _ I1 (turn n σ1 H1 w1)) fun b s2 ⟨H2, I2, q2⟩ => ?_)
  cases b with
  | true =>
    obtain ⟨N, hN, q2⟩ := q2
    rw [if_pos rfl]
    refine wpAny_passesOwn hp (thn (hb pins s2 σ1 H2 _ I2 q2) fun f s3 q3 => ?_)
    cases f with
    | next =>
      obtain ⟨σ3, H3, I3, n3⟩ := q3
      obtain ⟨m', hm, w3⟩ := hN σ3 H3 n3
      exact ⟨m', hm, σ3, H3, I3, w3⟩
    | cont =>
      obtain ⟨σ3, H3, I3, n3⟩ := q3
      obtain ⟨m', hm, w3⟩ := hN σ3 H3 n3
      exact ⟨m', hm, σ3, H3, I3, w3⟩
    | brk => exact q3
    | ret v => exact q3
  | false =>
    rw [if_neg Bool.false_ne_true]
    exact wpAny_execs_nil ⟨σ1, H2, I2, q2⟩
end
structure It where
  go : Nat → Hp → Prop
  yld : Nat → Hp → V → Hp → Prop
  stop : Nat → Hp → Prop
def FpOk (X : Cx) (pins : List (Addr × Obj)) (H : Hp) (b : Addr) : Prop :=
  H b = none ∧ b ≠ X.env.locals ∧ b ∉ X.fs ∧ (b ∈ X.ex ∨ X.s₀.heap.objs.size ≤ b) ∧ (∀ x c, X.env.cells.lookup x = some c → c ≠ b) ∧ ∀ p ∈ X.pn ++ pins, p.1 ≠ b
theorem Inv.fpOk {X : Cx} {pins : List (Addr × Obj)} {σ : St} {H H' : Hp} {s : Shared} {b : Addr} (I : Inv X pins σ H s) (hb : s.heap.objs.size ≤ b) (hn : H' b = none) : FpOk X pins H' b := by
  refine ⟨hn, Nat.ne_of_gt (Nat.lt_of_lt_of_le I.lt hb), I.nofs hb, .inr (Nat.le_trans I.sz hb), fun x c e z => ?_, fun p hp z => ?_⟩
  · obtain ⟨v, q⟩ := I.cell x c e
    exact absurd (Nat.lt_of_lt_of_le q.lt (by rw [z]; exact hb)) (Nat.lt_irrefl _)
  · exact absurd (Nat.lt_of_lt_of_le (Heap.lt_size (I.pin p hp).1) (by rw [z]; exact hb)) (Nat.lt_irrefl _)
structure Turn (P : Program) (w : World) (K : PySem.W.Frag) (tg : Expr) (J : It) (fp : List Addr) (it : Addr) (tn : Nat → Heap → Prop) : Prop where
  mem : it ∈ fp
  obj : ∀ i h, tn i h → ∀ b ∈ fp, ∃ o, h.get? b = some o ∧ ∀ v, o.data ≠ .cell v
  keep : ∀ i h h', tn i h → (∀ b ∈ fp, ∀ o, h.get? b = some o → h'.get? b = some o) → tn i h'
  item : ∀ (X : Cx), X.prog = P → X.w = w → X.K = K → X.calm = true → ∀ (i : Nat) (pins : List (Addr × Obj)) (s : Shared) (σ : St) (H : Hp) (E : Value → Shared → Prop), Inv X pins σ H s → (∀ b ∈ fp, FpOk X pins H b) → tn i s.heap → J.go i H →
    wpAny (model P w) X.A (pyNext (.ref it)) (fun r s1 => ∃ u, r = some u ∧
      wpAny (model P w) X.A (letOwnedTupleGo tg (.ref it) u) (fun _ s2 => ∃ x H', Inv X pins σ H' s2 ∧ RelV x u ∧ J.yld i H x H' ∧ tn (i + 1) s2.heap ∧ ∀ b ∈ fp, H' b = none) E s1) E s
  done : ∀ (X : Cx), X.prog = P → X.w = w → X.K = K → X.calm = true → ∀ (i : Nat) (pins : List (Addr × Obj)) (s : Shared) (σ : St) (H : Hp) (E : Value → Shared → Prop), Inv X pins σ H s → (∀ b ∈ fp, FpOk X pins H b) → tn i s.heap → J.stop i H →
    wpAny (model P w) X.A (pyNext (.ref it)) (fun r s1 => r = none ∧ Inv X pins σ H s1) E s
  self : ∀ (A : Around) (i : Nat) (s : Shared) (Q : Value → Shared → Prop) (E : Value → Shared → Prop), tn i s.heap → Q (.ref it) s → wpAny (model P w) A (pyIter (.ref it)) Q E s
abbrev TI := St → Hp → (It → Hp → Prop) → Prop
def PIE (X : Cx) (pins : List (Addr × Obj)) (σ : St) (tg : Expr) (R : It → Hp → Prop) (itv : Value) (s2 : Shared) : Prop :=
  ∃ (it : Addr) (fp : List Addr) (tn : Nat → Heap → Prop) (J : It) (H' : Hp), itv = .ref it ∧ Inv X pins σ H' s2 ∧ Turn X.prog X.w X.K tg J fp it tn ∧ tn 0 s2.heap ∧ (∀ b ∈ fp, FpOk X pins H' b) ∧ R J H'
def PI (X : Cx) (tg iter : Expr) (wi : TI) : Prop :=
  ∀ (pins : List (Addr × Obj)) (s : Shared) (σ : St) (H : Hp) (R : It → Hp → Prop), Inv X pins σ H s → wi σ H R →
    wpAny (model X.prog X.w) X.A (eval iter X.env) (fun v s1 => wpAny (model X.prog X.w) X.A (pyIter v) (PIE X pins σ tg R) X.xe s1) X.xe s
theorem go_of {M : Model} {A : Around} {E : Value → Shared → Prop} {s : Shared} {tg : Expr} {it : Addr} {u : Value} {o : Obj} {n : String} {vs : Array Value} {Q : Unit → Shared → Prop} (ho : s.heap.get? it = some o) (hc : o.cls = .type n) (hd : o.data = .fields vs)
    (hn : ["enumerate", "zip", "dict_itemiterator", "dict_reverseitemiterator", "odict_iterator", "itertools.zip_longest", "itertools.pairwise"].contains n = false) (hQ : Q () s) : wpAny M A (letOwnedTupleGo tg (.ref it) u) Q E s := by
  unfold letOwnedTupleGo
  cases tg <;> first
    | exact wpAny_pure hQ
    | (cases u <;> first
        | exact wpAny_pure hQ
        | (refine wpAny_bind (wpAny_load ho ?_)
           rw [hc, hd]
           show wpAny M A (if (["enumerate", "zip", "dict_itemiterator", "dict_reverseitemiterator", "odict_iterator", "itertools.zip_longest", "itertools.pairwise"].contains n && vs[0]? == some (rawInt _)) = true then _ else _) Q E s
           rw [if_neg (by intro h; rw [hn, Bool.false_and] at h; cases h)]
           exact wpAny_pure hQ))
def Itl (K : PySem.W.Frag) (a : Addr) : It :=
  ⟨fun i H => ∃ xs x, SqL K H a xs ∧ xs[i]? = some x, fun i H x H' => H' = H ∧ ∀ xs, SqL K H a xs → xs[i]? = some x, fun i H => ∃ xs, SqL K H a xs ∧ xs.length ≤ i⟩
def Itt (K : PySem.W.Frag) (a : Addr) : It :=
  ⟨fun i H => ∃ xs x, SqT K H a xs ∧ xs[i]? = some x, fun i H x H' => H' = H ∧ ∀ xs, SqT K H a xs → xs[i]? = some x, fun i H => ∃ xs, SqT K H a xs ∧ xs.length ≤ i⟩
def Itr (lo : Int) (n : Nat) : It := ⟨fun i _ => i < n, fun i H x H' => H' = H ∧ x = .int (lo + i), fun i _ => n ≤ i⟩
theorem turn_list {P : Program} {w : World} {K : PySem.W.Frag} {tg : Expr} (a it : Addr) : Turn P w K tg (Itl K a) [it] it (fun i h => h.IsListIter it a i) where
  mem := by simp
  obj := fun i h st b hb => by
    have e : b = it := by simpa using hb
    subst e
    obtain ⟨o, e, c, d⟩ := st
    exact ⟨o, e, fun v z => by rw [d] at z; cases z⟩
  keep := fun i h h' st k => st.at fun o e => k it (by simp) o e
  item := by
    intro X hP hw hK hc i pins s σ H E I hf st hg
    subst hP hw hK
    obtain ⟨xs, x, hq, hx⟩ := hg
    obtain ⟨its, rv, p, hz⟩ := I.list hq
    obtain ⟨u, hu, ru⟩ := rv.get hx
    obtain ⟨f0, f1, f2, f3, f4, f5⟩ := hf it (by simp)
    refine wpAny_pyNext_list_item st p.isList (x := u) (by simpa using hu) fun h' st' sb => ?_
    have I1 : Inv X pins σ H { s with heap := h' } := I.turned (t' := s.toks) (fun b o hb e => (sb.2 b hb).trans e) f0 f1 f3 f4 f5
    obtain ⟨o, e, c, d⟩ := id st'
    exact ⟨u, rfl, go_of (s := { s with heap := h' }) e c d (by decide) ⟨x, H, I1, ru, ⟨rfl, fun ys hy => by rw [I.list_inj hy hq]; exact hx⟩, st', fun b hb => (hf b hb).1⟩⟩
  done := by
    intro X hP hw hK hc i pins s σ H E I hf st hg
    subst hP hw hK
    obtain ⟨xs, hq, hx⟩ := hg
    obtain ⟨its, rv, p, hz⟩ := I.list hq
    obtain ⟨f0, f1, f2, f3, f4, f5⟩ := hf it (by simp)
    have hl := rv.length
    exact wpAny_pyNext_list_end (I.ok.hd hc) st p.isList (by simp; omega) fun h' eb => ⟨rfl, I.turned (t' := s.toks) (fun b o hb e => eb b o hb e) f0 f1 f3 f4 f5⟩
  self := fun _ _ _ _ _ st h => wpAny_pyIter_listiter st h
theorem turn_tuple {P : Program} {w : World} {K : PySem.W.Frag} {tg : Expr} (a it : Addr) : Turn P w K tg (Itt K a) [it] it (fun i h => h.IsTupleIter it a i) where
  mem := by simp
  obj := fun i h st b hb => by
    have e : b = it := by simpa using hb
    subst e
    obtain ⟨o, e, c, d⟩ := st
    exact ⟨o, e, fun v z => by rw [d] at z; cases z⟩
  keep := fun i h h' st k => st.at fun o e => k it (by simp) o e
  item := by
    intro X hP hw hK hc i pins s σ H E I hf st hg
    subst hP hw hK
    obtain ⟨xs, x, hq, hx⟩ := hg
    obtain ⟨its, rv, p, hz⟩ := I.tuple hq
    obtain ⟨u, hu, ru⟩ := rv.get hx
    obtain ⟨f0, f1, f2, f3, f4, f5⟩ := hf it (by simp)
    refine wpAny_pyNext_tuple_item st (show s.heap.IsTuple a its.toArray from p) (x := u) (by simpa using hu) fun h' st' sb => ?_
    have I1 : Inv X pins σ H { s with heap := h' } := I.turned (t' := s.toks) (fun b o hb e => (sb.2 b hb).trans e) f0 f1 f3 f4 f5
    obtain ⟨o, e, c, d⟩ := id st'
    exact ⟨u, rfl, go_of (s := { s with heap := h' }) e c d (by decide) ⟨x, H, I1, ru, ⟨rfl, fun ys hy => by rw [I.tuple_inj hy hq]; exact hx⟩, st', fun b hb => (hf b hb).1⟩⟩
  done := by
    intro X hP hw hK hc i pins s σ H E I hf st hg
    subst hP hw hK
    obtain ⟨xs, hq, hx⟩ := hg
    obtain ⟨its, rv, p, hz⟩ := I.tuple hq
    obtain ⟨f0, f1, f2, f3, f4, f5⟩ := hf it (by simp)
    have hl := rv.length
    exact wpAny_pyNext_tuple_end (I.ok.hd hc) st (show s.heap.IsTuple a its.toArray from p) (by simp; omega) fun h' eb => ⟨rfl, I.turned (t' := s.toks) (fun b o hb e => eb b o hb e) f0 f1 f3 f4 f5⟩
  self := fun _ _ _ _ _ st h => wpAny_pyIter_tupleiter st h
theorem turn_range {P : Program} {w : World} {K : PySem.W.Frag} {tg : Expr} (it : Addr) (lo : Int) (n : Nat) : Turn P w K tg (Itr lo n) [it] it (fun i h => IsRangeIter h it (lo + (i : Nat) * 1) ((n : Int) - (i : Nat)) 1) where
  mem := by simp
  obj := fun i h st b hb => by
    have e : b = it := by simpa using hb
    subst e
    exact ⟨_, st, fun v z => by
      have z' : Data.fields _ = Data.cell v := z
      cases z'⟩
  keep := fun i h h' st k => k it (by simp) _ st
  item := by
    intro X hP hw hK hc i pins s σ H E I hf st hg
    subst hP hw hK
    obtain ⟨f0, f1, f2, f3, f4, f5⟩ := hf it (by simp)
    have W := Walks.range (prog := X.prog) (w := X.w) (I.ok.hd hc) it lo 1 n
    refine W.item i s _ _ hg st fun v h' tk hv st' kk => ?_
    obtain ⟨t, rfl⟩ := hv
    have I1 : Inv X pins σ H { s with heap := h', toks := tk } := I.turned (fun b o hb e => kk b o (by simpa using hb) e) f0 f1 f3 f4 f5
    refine ⟨_, rfl, go_of (s := { s with heap := h', toks := tk }) (n := "range_iterator") st' rfl rfl (by decide) ⟨.int (lo + i), H, I1, ⟨t, ?_⟩, ⟨rfl, rfl⟩, st', fun b hb => (hf b hb).1⟩⟩
    rw [Int.mul_one]
  done := by
    intro X hP hw hK hc i pins s σ H E I hf st hg
    subst hP hw hK
    obtain ⟨f0, f1, f2, f3, f4, f5⟩ := hf it (by simp)
    exact wpAny_pyNext_range_end (I.ok.hd hc) st (by have : n ≤ i := hg; omega) fun h' eb => ⟨rfl, I.turned (t' := s.toks) (fun b o hb e => eb b o hb e) f0 f1 f3 f4 f5⟩
  self := fun _ _ _ _ _ st h => wpAny_pyIter_rangeiter st h
end L2
namespace L2
open PySem PySem.Spec PyProof.Rows
section
variable {X : Cx} {tg : Expr}
def iList (K : PySem.W.Frag) (tl : TE) : TI := fun σ H R => tl σ H fun x H1 => ∃ a, x = .ref a ∧ (∃ xs, SqL K H1 a xs) ∧ R (Itl K a) H1
def iTup (K : PySem.W.Frag) (tl : TE) : TI := fun σ H R => tl σ H fun x H1 => ∃ a, x = .ref a ∧ (∃ xs, SqT K H1 a xs) ∧ R (Itt K a) H1
theorem pi_list {l : Expr} {tl : TE} (hl : PE X l tl) : PI X tg l (iList X.K tl) := by
  intro pins s σ H R I h
  refine thn (hl pins s σ H _ I h) fun v s1 ⟨x, H1, I1, r1, q1⟩ => ?_
  obtain ⟨a, e, ⟨xs, hq⟩, q⟩ := q1
  subst e
  cases r1
  obtain ⟨its, rv, p, hz⟩ := I1.list hq
  refine wpAny_pyIter_list p.isList ?_
  refine ⟨s1.heap.objs.size, [s1.heap.objs.size], _, _, H1, rfl, I1.kept (t' := s1.toks) fun b o e => Heap.get?_push_of_some _ e, turn_list a _, ⟨_, Heap.get?_push_size _ rfl, rfl, rfl⟩, fun b hb => ?_, q⟩
  have e : b = s1.heap.objs.size := by simpa using hb
  subst e
  exact I1.fpOk (Nat.le_refl _) (I1.hok.fresh (Nat.le_refl _))
theorem pi_tup {l : Expr} {tl : TE} (hl : PE X l tl) : PI X tg l (iTup X.K tl) := by
  intro pins s σ H R I h
  refine thn (hl pins s σ H _ I h) fun v s1 ⟨x, H1, I1, r1, q1⟩ => ?_
  obtain ⟨a, e, ⟨xs, hq⟩, q⟩ := q1
  subst e
  cases r1
  obtain ⟨its, rv, p, hz⟩ := I1.tuple hq
  refine wpAny_pyIter_tuple (show s1.heap.IsTuple a its.toArray from p) ?_
  refine ⟨s1.heap.objs.size, [s1.heap.objs.size], _, _, H1, rfl, I1.kept (t' := s1.toks) fun b o e => Heap.get?_push_of_some _ e, turn_tuple a _, ⟨_, Heap.get?_push_size _ rfl, rfl, rfl⟩, fun b hb => ?_, q⟩
  have e : b = s1.heap.objs.size := by simpa using hb
  subst e
  exact I1.fpOk (Nat.le_refl _) (I1.hok.fresh (Nat.le_refl _))
theorem range_it {pins : List (Addr × Obj)} {σ : St} {H : Hp} {s : Shared} {R : It → Hp → Prop} {E : Value → Shared → Prop} {lo hi : Int} {t u v : Tok} {tk : Nat} (I : Inv X pins σ H s) (h1 : -(2 ^ 62) ≤ lo) (h2 : lo < 2 ^ 62) (h3 : -(2 ^ 62) ≤ hi) (h4 : hi < 2 ^ 62)
    (q : R (Itr lo (hi - lo).toNat) H) : wpAny (model X.prog X.w) X.A (pyIter (.ref s.heap.objs.size)) (PIE X pins σ tg R) E { s with heap := s.heap.push { cls := .type "range", data := .fields #[.int lo t, .int hi u, .int 1 v] }, toks := tk } := by
  refine wpAny_pyIter_range (IsRange.new ..) (small_one h1 h2 h3 h4) ?_
  have I1 : Inv X pins σ H { s with heap := s.heap.push { cls := .type "range", data := .fields #[.int lo t, .int hi u, .int 1 v] }, toks := tk } := I.kept fun b o e => Heap.get?_push_of_some _ e
  refine ⟨(s.heap.push { cls := .type "range", data := .fields #[.int lo t, .int hi u, .int 1 v] }).objs.size, [(s.heap.push { cls := .type "range", data := .fields #[.int lo t, .int hi u, .int 1 v] }).objs.size], _, _, H, rfl,
    I1.kept (t' := tk) fun b o e => Heap.get?_push_of_some _ e, turn_range _ lo (hi - lo).toNat, ?_, fun b hb => ?_, q⟩
  · have e1 : lo + ((0 : Nat) : Int) * 1 = lo := by simp
    have e2 : (((hi - lo).toNat : Nat) : Int) - ((0 : Nat) : Int) = Builtin.Range.rangeSize lo hi 1 := by rw [rangeSize_one]; split <;> omega
    show IsRangeIter _ _ (lo + ((0 : Nat) : Int) * 1) ((((hi - lo).toNat : Nat) : Int) - ((0 : Nat) : Int)) 1
    rw [e1, e2]
    exact Heap.get?_push_size _ rfl
  · have e : b = (s.heap.push { cls := .type "range", data := .fields #[.int lo t, .int hi u, .int 1 v] }).objs.size := by simpa using hb
    subst e
    exact I1.fpOk (Nat.le_refl _) (I1.hok.fresh (Nat.le_refl _))
def iRng1 (ta : TA) : TI := fun σ H R => ta σ H fun vs H1 => ∃ j : Int, vs = [.int j] ∧ -(2 ^ 62) ≤ j ∧ j < 2 ^ 62 ∧ R (Itr 0 j.toNat) H1
theorem pi_range1 {a : Expr} {ta : TA} {p pos : Pos} (hg : Gl X "range") (hm : X.mg "range" = none) (ha : PA X [a] ta) (hs : starEach [a] X.env = [(false, eval a X.env)] := by rfl) : PI X tg (.Call (.Name "range" p) [a] [] pos) (iRng1 ta) := by
  intro pins s σ H R I h
  refine Call_ (ld_blt I hg hm boot_range (PyProof.Rows.callWith_type1 (thn (ha pos pins s σ H _ I h) fun us s1 ⟨vs, H1, I1, r1, q1⟩ => ?_) hs rfl))
  obtain ⟨j, e, q1, q2, q⟩ := q1
  subst e
  cases r1 with
  | cons r rr =>
    cases rr
    obtain ⟨t, rfl⟩ := r
    exact call_range_1 (range_it I1 (by omega) (by omega) q1 q2 (by simpa using q))
def tFor (wi : TI) (g : TG) (tb : TS) : TS := fun D σ H => wi σ H fun J H1 => ∃ W : Nat → Nat → St → Hp → Prop, (∃ m, W 0 m σ H1) ∧ ∀ i m σ H, W i m σ H →
  (J.stop i H ∧ D.nx σ H) ∨ (J.go i H ∧ ∃ N : St → Hp → Prop, (∀ σ' H', N σ' H' → ∃ m', m' < m ∧ W (i + 1) m' σ' H') ∧ ∀ x H', J.yld i H x H' → g x σ H' fun σ2 H2 => tb { D with nx := N, ct := N, bk := D.nx } σ2 H2)
def pinsAt (fp : List Addr) (h : Heap) : List (Addr × Obj) := fp.filterMap fun b => (h.get? b).map fun o => (b, o)
theorem mem_pinsAt {fp : List Addr} {h : Heap} {b : Addr} {o : Obj} (hb : b ∈ fp) (e : h.get? b = some o) : (b, o) ∈ pinsAt fp h := List.mem_filterMap.mpr ⟨b, hb, by rw [e]; rfl⟩
theorem of_pinsAt {fp : List Addr} {h : Heap} {p : Addr × Obj} (hp : p ∈ pinsAt fp h) : p.1 ∈ fp ∧ h.get? p.1 = some p.2 := by
  obtain ⟨b, hb, e⟩ := List.mem_filterMap.mp hp
  cases q : h.get? b with
  | none => rw [q] at e; cases e
  | some o =>
    rw [q] at e
    have e' : (b, o) = p := Option.some.inj e
    subst e'
    exact ⟨hb, q⟩
theorem Inv.pinned {pins : List (Addr × Obj)} {σ : St} {H : Hp} {s : Shared} {fp : List Addr} (I : Inv X pins σ H s) (hf : ∀ b ∈ fp, FpOk X pins H b) (ho : ∀ b ∈ fp, ∃ o, s.heap.get? b = some o ∧ ∀ v, o.data ≠ .cell v) : Inv X (pins ++ pinsAt fp s.heap) σ H s :=
  I.pins_of fun p hp => (List.mem_append.mp hp).elim (fun z => I.pin p (List.mem_append_right _ z)) fun z => by
    obtain ⟨hb, e⟩ := of_pinsAt z
    obtain ⟨f0, f1, f2, _⟩ := hf p.1 hb
    obtain ⟨o, e', d⟩ := ho p.1 hb
    rw [e] at e'; cases e'
    exact ⟨e, f0, f1, f2, d⟩
theorem Inv.unpinned {pins pl : List (Addr × Obj)} {σ : St} {H : Hp} {s : Shared} (I : Inv X (pins ++ pl) σ H s) : Inv X pins σ H s := I.pins_of fun p hp => I.pin p (List.mem_append_right _ (List.mem_append_left _ hp))
theorem ps_for {iter : Expr} {body : List Stmt} {wi : TI} {g : TG} {tb : TS} {pos : Pos} (hp : PassesOwn (model X.prog X.w) X.A X.env X.xe) (hc : X.calm = true) (hi : PI X tg iter wi) (hg : PG X tg g) (hb : PSs X body tb)
    (hs : ∀ x, foldedSetIterable iter X.env x = pure x := by intro _; rfl) : PS X (.For tg iter body [] pos) (tFor wi g tb) := by
  intro pins s σ H D I h
  refine wpAny_For (thn (hi pins s σ H _ I h) fun v s1 h1 => thn h1 fun itv s2 h2 => ?_) hs
  obtain ⟨it, fp, tn, J, H2, e, I2, T, st2, f2, W, ⟨m0, w0⟩, turn⟩ := h2
  subst e
  have stat : ∀ {H' : Hp}, (∀ b ∈ fp, H' b = none) → ∀ b ∈ fp, FpOk X pins H' b := fun hn b hb => ⟨hn b hb, (f2 b hb).2⟩
  refine codeAny_forLoop_any (fun n s' => ∃ i σ' H', Inv X pins σ' H' s' ∧ tn i s'.heap ∧ (∀ b ∈ fp, H' b = none) ∧ W i n σ' H') ?_ m0 ⟨0, σ, H2, I2, st2, fun b hb => (f2 b hb).1, w0⟩
  rintro n s3 ⟨i, σ3, H3, I3, st3, fr3, w3⟩
  rcases turn i n σ3 H3 w3 with ⟨stop, qn⟩ | ⟨go, N, hN, step⟩
  · refine wpAny_passesOwn hp (thn (T.done X rfl rfl rfl hc i pins s3 σ3 H3 X.xe I3 (stat fr3) st3 stop) fun r s4 ⟨hr, I4⟩ => ?_)
    subst hr
    exact wpAny_execs_nil ⟨σ3, H3, I4, qn⟩
  · refine wpAny_passesOwn hp (thn (T.item X rfl rfl rfl hc i pins s3 σ3 H3 X.xe I3 (stat fr3) st3 go) fun r s4 ⟨u, hr, h4⟩ => ?_)
    subst hr
    refine wpAny_passesOwn hp (thn h4 fun _ s5 ⟨x, H5, I5, r5, y5, st5, fr5⟩ => ?_)
    have I5' := I5.pinned (stat fr5) (T.obj _ _ st5)
    refine wpAny_passesOwn hp (thn (hg _ s5 σ3 H5 x u _ I5' r5 (step x H5 y5)) fun _ s6 ⟨σ6, H6, I6, q6⟩ => ?_)
    refine wpAny_passesOwn hp (thn (hb _ s6 σ6 H6 _ I6 q6) fun f s7 q7 => ?_)
    have again : ∀ {σ7 : St} {H7 : Hp}, Inv X (pins ++ pinsAt fp s5.heap) σ7 H7 s7 → N σ7 H7 → ∃ m, m < n ∧ ∃ i σ' H', Inv X pins σ' H' s7 ∧ tn i s7.heap ∧ (∀ b ∈ fp, H' b = none) ∧ W i m σ' H' := fun {σ7 H7} I7 n7 => by
      obtain ⟨m', hm, w7⟩ := hN σ7 H7 n7
      refine ⟨m', hm, i + 1, σ7, H7, I7.unpinned, T.keep _ _ _ st5 fun b hb o e => (I7.pin (b, o) (List.mem_append_right _ (List.mem_append_right _ (mem_pinsAt hb e)))).1, fun b hb => ?_, w7⟩
      obtain ⟨o, e, d⟩ := T.obj _ _ st5 b hb
      exact (I7.pin (b, o) (List.mem_append_right _ (List.mem_append_right _ (mem_pinsAt hb e)))).2.1
    cases f with
    | next => obtain ⟨σ7, H7, I7, n7⟩ := q7; exact again I7 n7
    | cont => obtain ⟨σ7, H7, I7, n7⟩ := q7; exact again I7 n7
    | brk => obtain ⟨σ7, H7, I7, q7⟩ := q7; exact ⟨σ7, H7, I7.unpinned, q7⟩
    | ret v => obtain ⟨x7, σ7, H7, I7, r7, q7⟩ := q7; exact ⟨x7, σ7, H7, I7.unpinned, r7, q7⟩
end
theorem for_list {K : PySem.W.Frag} {a : Addr} {xs : List V} {g : TG} {tb : TS} {D : Ends} {σ : St} {H : Hp} (Pv : Nat → St → Hp → Prop) (h0 : Pv 0 σ H) (hl : ∀ i σ H, i ≤ xs.length → Pv i σ H → SqL K H a xs)
    (hs : ∀ i x σ H, xs[i]? = some x → Pv i σ H → g x σ H fun σ2 H2 => tb { D with nx := Pv (i + 1), ct := Pv (i + 1), bk := D.nx } σ2 H2) (hd : ∀ σ H, Pv xs.length σ H → D.nx σ H) :
    ∃ W : Nat → Nat → St → Hp → Prop, (∃ m, W 0 m σ H) ∧ ∀ i m σ H, W i m σ H →
      ((Itl K a).stop i H ∧ D.nx σ H) ∨ ((Itl K a).go i H ∧ ∃ N : St → Hp → Prop, (∀ σ' H', N σ' H' → ∃ m', m' < m ∧ W (i + 1) m' σ' H') ∧ ∀ x H', (Itl K a).yld i H x H' → g x σ H' fun σ2 H2 => tb { D with nx := N, ct := N, bk := D.nx } σ2 H2) := by
  refine ⟨fun i m σ H => m = xs.length - i ∧ i ≤ xs.length ∧ Pv i σ H, ⟨xs.length, by simp, Nat.zero_le _, h0⟩, ?_⟩
  rintro i m σ H ⟨rfl, hi, p⟩
  have q := hl i σ H hi p
  by_cases hlt : i < xs.length
  · refine .inr ⟨⟨xs, xs[i], q, by simp [hlt]⟩, Pv (i + 1), fun σ' H' p' => ⟨xs.length - (i + 1), by omega, rfl, hlt, p'⟩, fun x H' y => ?_⟩
    obtain ⟨e, y⟩ := y
    subst e
    exact hs i x σ _ (y xs q) p
  · have e : i = xs.length := by omega
    subst e
    exact .inl ⟨⟨xs, q, Nat.le_refl _⟩, hd σ H p⟩
theorem for_range {lo : Int} {n : Nat} {g : TG} {tb : TS} {D : Ends} {σ : St} {H : Hp} (Pv : Nat → St → Hp → Prop) (h0 : Pv 0 σ H)
    (hs : ∀ i σ H, i < n → Pv i σ H → g (.int (lo + i)) σ H fun σ2 H2 => tb { D with nx := Pv (i + 1), ct := Pv (i + 1), bk := D.nx } σ2 H2) (hd : ∀ σ H, Pv n σ H → D.nx σ H) :
    ∃ W : Nat → Nat → St → Hp → Prop, (∃ m, W 0 m σ H) ∧ ∀ i m σ H, W i m σ H →
      ((Itr lo n).stop i H ∧ D.nx σ H) ∨ ((Itr lo n).go i H ∧ ∃ N : St → Hp → Prop, (∀ σ' H', N σ' H' → ∃ m', m' < m ∧ W (i + 1) m' σ' H') ∧ ∀ x H', (Itr lo n).yld i H x H' → g x σ H' fun σ2 H2 => tb { D with nx := N, ct := N, bk := D.nx } σ2 H2) := by
  refine ⟨fun i m σ H => m = n - i ∧ i ≤ n ∧ Pv i σ H, ⟨n, by simp, Nat.zero_le _, h0⟩, ?_⟩
  rintro i m σ H ⟨rfl, hi, p⟩
  by_cases hlt : i < n
  · refine .inr ⟨hlt, Pv (i + 1), fun σ' H' p' => ⟨n - (i + 1), by omega, rfl, hlt, p'⟩, fun x H' y => ?_⟩
    obtain ⟨e, y⟩ := y
    subst e y
    exact hs i σ _ hlt p
  · have e : i = n := by omega
    subst e
    exact .inl ⟨Nat.le_refl _, hd σ H p⟩
end L2
namespace L2
open PySem PySem.Spec PyProof.Rows
abbrev R2 := V → V → Hp → VK → Prop
def OpR (X : Cx) (f : Value → Value → Sem Value) (r : R2) : Prop :=
  ∀ (pins : List (Addr × Obj)) (s : Shared) (σ : St) (H : Hp) (x y : V) (v u : Value) (Q : VK), Inv X pins σ H s → RelV x v → RelV y u → r x y H Q →
    wpAny (model X.prog X.w) X.A (f v u) (EP X pins σ Q) X.xe s
def UnR (X : Cx) (f : Value → Sem Value) (r : V → Hp → VK → Prop) : Prop :=
  ∀ (pins : List (Addr × Obj)) (s : Shared) (σ : St) (H : Hp) (x : V) (v : Value) (Q : VK), Inv X pins σ H s → RelV x v → r x H Q →
    wpAny (model X.prog X.w) X.A (f v) (EP X pins σ Q) X.xe s
def CallR (X : Cx) (f : Value) (r : List V → Hp → VK → Prop) : Prop :=
  ∀ (pins : List (Addr × Obj)) (s : Shared) (σ : St) (H : Hp) (xs : List V) (us : List Value) (Q : VK), Inv X pins σ H s → Vals xs us → r xs H Q →
    wpAny (model X.prog X.w) X.A (call f us) (EP X pins σ Q) X.xe s
def TruR (X : Cx) (r : V → Hp → (Bool → Hp → Prop) → Prop) : Prop :=
  ∀ (pins : List (Addr × Obj)) (s : Shared) (σ : St) (H : Hp) (x : V) (v : Value) (Q : Bool → Hp → Prop), Inv X pins σ H s → RelV x v → r x H Q →
    wpAny (model X.prog X.w) X.A (truthy v) (TP X pins σ Q) X.xe s
def tOp (r : R2) (ta tb : TE) : TE := fun σ H Q => ta σ H fun x H1 => tb σ H1 fun y H2 => r x y H2 Q
def tUn (r : V → Hp → VK → Prop) (ta : TE) : TE := fun σ H Q => ta σ H fun x H1 => r x H1 Q
def rI (C : Int → Int → Prop) (g : Int → Int → V) : R2 := fun x y H Q => ∃ i j, x = .int i ∧ y = .int j ∧ C i j ∧ Q (g i j) H
def rI0 (g : Int → Int → V) : R2 := fun x y H Q => ∃ i j, x = .int i ∧ y = .int j ∧ Q (g i j) H
def rU (g : Int → V) : V → Hp → VK → Prop := fun x H Q => ∃ i, x = .int i ∧ Q (g i) H
section
variable {X : Cx} {a b c : Expr} {ta tb tc : TE} {pos : Pos}
theorem binT (ha : PE X a ta) (hb : PE X b tb) {pins : List (Addr × Obj)} {s : Shared} {σ : St} {H : Hp} {R : V → V → Hp → Prop} (I : Inv X pins σ H s)
    (h : ta σ H fun x H1 => tb σ H1 fun y H2 => R x y H2) {Q : Value → Shared → Prop} {f : Value → Value → Sem Value}
    (hf : ∀ v u s2 x y H2, Inv X pins σ H2 s2 → RelV x v → RelV y u → R x y H2 → wpAny (model X.prog X.w) X.A (f v u) Q X.xe s2) :
    wpAny (model X.prog X.w) X.A (eval a X.env) (fun v s₁ => wpAny (model X.prog X.w) X.A (eval b X.env) (fun u s₂ => wpAny (model X.prog X.w) X.A (f v u) Q X.xe s₂) X.xe s₁) X.xe s := by
  refine thn (ha pins s σ H _ I h) fun v s1 ⟨x, H1, I1, r1, q1⟩ => ?_
  refine thn (hb pins s1 σ H1 _ I1 q1) fun u s2 ⟨y, H2, I2, r2, q2⟩ => ?_
  exact hf v u s2 x y H2 I2 r1 r2 q2
theorem pe_op {op : Operator} {r : R2} (ho : OpR X (binaryOp op) r) (ha : PE X a ta) (hb : PE X b tb) : PE X (.BinOp a op b pos) (tOp r ta tb) := by
  intro pins s σ H Q I h
  exact wpAny_BinOp (binT ha hb I h fun v u s2 x y H2 I2 rx ry q => ho pins s2 σ H2 x y v u Q I2 rx ry q)
theorem pe_un {op : UnaryOp} {r : V → Hp → VK → Prop} (ho : UnR X (unaryOp op) r) (ha : PE X a ta) : PE X (.UnaryOp op a pos) (tUn r ta) := by
  intro pins s σ H Q I h
  exact UnaryOp_ (thn (ha pins s σ H _ I h) fun v s1 ⟨x, H1, I1, r1, q1⟩ => ho pins s1 σ H1 x v Q I1 r1 q1)
theorem opI {f : Value → Value → Sem Value} {C : Int → Int → Prop} {g : Int → Int → Int}
    (rule : ∀ (i j : Int) (t u : Tok) (s : Shared) (Q : Value → Shared → Prop) (E : Value → Shared → Prop), C i j → Q (.int (g i j) s.toks) { s with toks := s.toks + 1 } → wpAny (model X.prog X.w) X.A (f (.int i t) (.int j u)) Q E s) :
    OpR X f (rI C fun i j => .int (g i j)) := by
  intro pins s σ H x y v u Q I rx ry h
  obtain ⟨i, j, rfl, rfl, hc, q⟩ := h
  obtain ⟨t, rfl⟩ := rx
  obtain ⟨t', rfl⟩ := ry
  exact rule i j t t' s _ _ hc ⟨.int (g i j), H, I.tok _, ⟨_, rfl⟩, q⟩
theorem opI0 {f : Value → Value → Sem Value} {g : Int → Int → Int}
    (rule : ∀ (i j : Int) (t u : Tok) (s : Shared) (Q : Value → Shared → Prop) (E : Value → Shared → Prop), Q (.int (g i j) s.toks) { s with toks := s.toks + 1 } → wpAny (model X.prog X.w) X.A (f (.int i t) (.int j u)) Q E s) :
    OpR X f (rI0 fun i j => .int (g i j)) := by
  intro pins s σ H x y v u Q I rx ry h
  obtain ⟨i, j, rfl, rfl, q⟩ := h
  obtain ⟨t, rfl⟩ := rx
  obtain ⟨t', rfl⟩ := ry
  exact rule i j t t' s _ _ ⟨.int (g i j), H, I.tok _, ⟨_, rfl⟩, q⟩
theorem opB0 {f : Value → Value → Sem Value} {g : Int → Int → Bool}
    (rule : ∀ (i j : Int) (t u : Tok) (s : Shared) (Q : Value → Shared → Prop) (E : Value → Shared → Prop), Q (.bool (g i j)) s → wpAny (model X.prog X.w) X.A (f (.int i t) (.int j u)) Q E s) :
    OpR X f (rI0 fun i j => .bl (g i j)) := by
  intro pins s σ H x y v u Q I rx ry h
  obtain ⟨i, j, rfl, rfl, q⟩ := h
  obtain ⟨t, rfl⟩ := rx
  obtain ⟨t', rfl⟩ := ry
  exact rule i j t t' s _ _ ⟨.bl (g i j), H, I, rfl, q⟩
def CDiv (i j : Int) : Prop := 0 < j ∧ j < 1073741824
def CPow (i j : Int) : Prop := 0 ≤ j ∧ j ≤ 1000000 ∧ i.natAbs < 2 ^ 64
def CMul (i j : Int) : Prop := (-(2 ^ 64) < i ∧ i < 2 ^ 64) ∨ (-(2 ^ 64) < j ∧ j < 2 ^ 64)
theorem CMul.ok {i j : Int} (h : CMul i j) : IntMulOk i j := by
  rcases h with ⟨h1, h2⟩ | ⟨h1, h2⟩
  · exact .of_left (intBits_le_64 h1 h2)
  · exact .of_right (intBits_le_64 h1 h2)
theorem op_add : OpR X (binaryOp .Add) (rI0 fun i j => .int (i + j)) := opI0 fun _ _ _ _ _ _ _ q => add_int q
theorem op_sub : OpR X (binaryOp .Sub) (rI0 fun i j => .int (i - j)) := opI0 fun _ _ _ _ _ _ _ q => sub_int q
theorem op_mul : OpR X (binaryOp .Mult) (rI CMul fun i j => .int (i * j)) := opI fun _ _ _ _ _ _ _ hc q => mul_int q hc.ok
theorem op_mod : OpR X (binaryOp .Mod) (rI (fun _ j => 0 < j) fun i j => .int (i % j)) := opI fun i j _ _ _ _ _ hc q => by
  have h1 : (0 : Int) < j := hc
  exact mod_int' (by omega) (by rw [Int.fmod_eq_emod_of_nonneg i (by omega)]; exact q)
theorem op_pow : OpR X (binaryOp .Pow) (rI CPow fun i j => .int (i ^ j.toNat)) := opI fun _ _ _ _ _ _ _ hc q => pow_int_small hc.1 hc.2.1 hc.2.2 q
theorem unI {f : Value → Sem Value} {g : Int → Int}
    (rule : ∀ (i : Int) (t : Tok) (s : Shared) (Q : Value → Shared → Prop) (E : Value → Shared → Prop), Q (.int (g i) s.toks) { s with toks := s.toks + 1 } → wpAny (model X.prog X.w) X.A (f (.int i t)) Q E s) :
    UnR X f (rU fun i => .int (g i)) := by
  intro pins s σ H x v Q I rx h
  obtain ⟨i, rfl, q⟩ := h
  obtain ⟨t, rfl⟩ := rx
  exact rule i t s _ _ ⟨.int (g i), H, I.tok _, ⟨_, rfl⟩, q⟩
theorem un_neg : UnR X (unaryOp .USub) (rU fun i => .int (-i)) := unI fun _ _ _ _ _ q => neg_int q
end
def scal : V → V → Bool
  | .non, .non => true | .non, .int _ => true | .int _, .non => true | .non, .bl _ => true | .bl _, .non => true | .non, .str _ => true | .str _, .non => true
  | .int _, .int _ => true | .bl _, .bl _ => true | .str _, .str _ => true | .byt _, .byt _ => true
  | .int _, .str _ => true | .str _, .int _ => true | .bl _, .str _ => true | .str _, .bl _ => true
  | _, _ => false
def rEq : R2 := fun x y H Q => scal x y = true ∧ Q (.bl (decide (x = y))) H
def rNe : R2 := fun x y H Q => scal x y = true ∧ Q (.bl (!decide (x = y))) H
theorem dec_int {i j : Int} : decide (V.int i = V.int j) = (i == j) := by
  rw [Bool.eq_iff_iff]
  simp
theorem dec_bl {i j : Bool} : decide (V.bl i = V.bl j) = (i == j) := by
  rw [Bool.eq_iff_iff]
  simp
theorem dec_str {i j : Str} : decide (V.str i = V.str j) = (i == j) := by
  rw [Bool.eq_iff_iff]
  simp
theorem dec_byt {i j : Array UInt8} : decide (V.byt i = V.byt j) = (i.toList == j.toList) := by
  rw [Bool.eq_iff_iff]
  cases i
  cases j
  simp
section
variable {X : Cx} {a b c : Expr} {ta tb tc : TE} {pos : Pos}
theorem fin_bl {pins : List (Addr × Obj)} {σ : St} {H : Hp} {s : Shared} {Q : VK} {k k' : Bool} (I : Inv X pins σ H s) (q : Q (.bl k) H) (e : k = k') : EP X pins σ Q (.bool k') s := by
  subst e
  exact ⟨.bl k, H, I, rfl, q⟩
theorem op_eq : OpR X (compareOp .Eq) rEq := by
  intro pins s σ H x y v u Q I rx ry h
  obtain ⟨hs, q⟩ := h
  cases x with
  | non =>
    cases rx
    cases y with
    | non => cases ry; exact PySem.EqNone.eq_none_none (fin_bl I q (by simp))
    | bl j => cases ry; exact PySem.EqNone.eq_none_bool (fin_bl I q (by simp))
    | int j => obtain ⟨t', rfl⟩ := ry; exact PySem.EqNone.eq_none_int (fin_bl I q (by simp))
    | str j => obtain ⟨t', rfl⟩ := ry; exact PySem.EqNone.eq_none_str (fin_bl I q (by simp))
    | _ => exact absurd (show false = true from hs) Bool.false_ne_true
  | bl i =>
    cases rx
    cases y with
    | non => cases ry; exact PySem.EqNone.eq_bool_none (fin_bl I q (by simp))
    | bl j => cases ry; exact eq_bool (fin_bl I q dec_bl)
    | str j => obtain ⟨t', rfl⟩ := ry; exact PySem.EqMixed.eq_bool_str (fin_bl I q (by simp))
    | _ => exact absurd (show false = true from hs) Bool.false_ne_true
  | int i =>
    obtain ⟨t, rfl⟩ := rx
    cases y with
    | non => cases ry; exact PySem.EqNone.eq_int_none (fin_bl I q (by simp))
    | int j => obtain ⟨t', rfl⟩ := ry; exact eq_int (fin_bl I q dec_int)
    | str j => obtain ⟨t', rfl⟩ := ry; exact PySem.EqMixed.eq_int_str (fin_bl I q (by simp))
    | _ => exact absurd (show false = true from hs) Bool.false_ne_true
  | str i =>
    obtain ⟨t, rfl⟩ := rx
    cases y with
    | non => cases ry; exact PySem.EqNone.eq_str_none (fin_bl I q (by simp))
    | bl j => cases ry; exact PySem.EqMixed.eq_str_bool (fin_bl I q (by simp))
    | int j => obtain ⟨t', rfl⟩ := ry; exact PySem.EqMixed.eq_str_int (fin_bl I q (by simp))
    | str j => obtain ⟨t', rfl⟩ := ry; exact eq_str (fin_bl I q dec_str)
    | _ => exact absurd (show false = true from hs) Bool.false_ne_true
  | byt i =>
    obtain ⟨t, rfl⟩ := rx
    cases y with
    | byt j => obtain ⟨t', rfl⟩ := ry; exact PySem.W.eq_bytes (fin_bl I q dec_byt)
    | _ => exact absurd (show false = true from hs) Bool.false_ne_true
  | _ => cases y <;> exact absurd (show false = true from hs) Bool.false_ne_true
theorem op_ne : OpR X (compareOp .NotEq) rNe := by
  intro pins s σ H x y v u Q I rx ry h
  obtain ⟨hs, q⟩ := h
  cases x with
  | non =>
    cases rx
    cases y with
    | non => cases ry; exact PySem.EqNone.ne_none_none (fin_bl I q (by simp))
    | bl j => cases ry; exact PySem.EqNone.ne_none_bool (fin_bl I q (by simp))
    | int j => obtain ⟨t', rfl⟩ := ry; exact PySem.EqNone.ne_none_int (fin_bl I q (by simp))
    | str j => obtain ⟨t', rfl⟩ := ry; exact PySem.EqNone.ne_none_str (fin_bl I q (by simp))
    | _ => exact absurd (show false = true from hs) Bool.false_ne_true
  | bl i =>
    cases rx
    cases y with
    | non => cases ry; exact PySem.EqNone.ne_bool_none (fin_bl I q (by simp))
    | bl j => cases ry; exact ne_bool (fin_bl I q (congrArg not dec_bl))
    | str j => obtain ⟨t', rfl⟩ := ry; exact PySem.EqMixed.ne_bool_str (fin_bl I q (by simp))
    | _ => exact absurd (show false = true from hs) Bool.false_ne_true
  | int i =>
    obtain ⟨t, rfl⟩ := rx
    cases y with
    | non => cases ry; exact PySem.EqNone.ne_int_none (fin_bl I q (by simp))
    | int j => obtain ⟨t', rfl⟩ := ry; exact ne_int (fin_bl I q (congrArg not dec_int))
    | str j => obtain ⟨t', rfl⟩ := ry; exact PySem.EqMixed.ne_int_str (fin_bl I q (by simp))
    | _ => exact absurd (show false = true from hs) Bool.false_ne_true
  | str i =>
    obtain ⟨t, rfl⟩ := rx
    cases y with
    | non => cases ry; exact PySem.EqNone.ne_str_none (fin_bl I q (by simp))
    | bl j => cases ry; exact PySem.EqMixed.ne_str_bool (fin_bl I q (by simp))
    | int j => obtain ⟨t', rfl⟩ := ry; exact PySem.EqMixed.ne_str_int (fin_bl I q (by simp))
    | str j => obtain ⟨t', rfl⟩ := ry; exact ne_str (fin_bl I q (congrArg not dec_str))
    | _ => exact absurd (show false = true from hs) Bool.false_ne_true
  | byt i =>
    obtain ⟨t, rfl⟩ := rx
    cases y with
    | byt j => obtain ⟨t', rfl⟩ := ry; exact PySem.W.ne_bytes (fin_bl I q (congrArg not dec_byt))
    | _ => exact absurd (show false = true from hs) Bool.false_ne_true
  | _ => cases y <;> exact absurd (show false = true from hs) Bool.false_ne_true
theorem op_lt : OpR X (compareOp .Lt) (rI0 fun i j => .bl (decide (i < j))) := opB0 fun _ _ _ _ _ _ _ q => lt_int q
theorem op_le : OpR X (compareOp .LtE) (rI0 fun i j => .bl (decide (i ≤ j))) := opB0 fun _ _ _ _ _ _ _ q => le_int q
theorem op_gt : OpR X (compareOp .Gt) (rI0 fun i j => .bl (decide (j < i))) := opB0 fun _ _ _ _ _ _ _ q => gt_int q
theorem op_ge : OpR X (compareOp .GtE) (rI0 fun i j => .bl (decide (j ≤ i))) := opB0 fun _ _ _ _ _ _ _ q => ge_int q
theorem op_in_str : OpR X (compareOp .In) (fun x y H Q => ∃ i j, x = .str i ∧ y = .str j ∧ Q (.bl (!(Builtin.Str.occurrences j i 0 j.length 1).isEmpty)) H) := by
  intro pins s σ H x y v u Q I rx ry h
  obtain ⟨i, j, rfl, rfl, q⟩ := h
  obtain ⟨t, rfl⟩ := rx
  obtain ⟨t', rfl⟩ := ry
  exact in_str (fin_bl I q rfl)
theorem op_isN : OpR X (compareOp .Is) (fun x y H Q => y = .non ∧ Q (.bl (decide (x = .non))) H) := by
  intro pins s σ H x y v u Q I rx ry h
  obtain ⟨rfl, q⟩ := h
  cases ry
  refine is_none_gen (fin_bl I q ?_)
  cases x <;> first
    | (cases rx; rfl)
    | (obtain ⟨t, rfl⟩ := rx; rfl)
theorem op_notN : OpR X (compareOp .IsNot) (fun x y H Q => y = .non ∧ Q (.bl (!decide (x = .non))) H) := by
  intro pins s σ H x y v u Q I rx ry h
  obtain ⟨rfl, q⟩ := h
  cases ry
  refine isnot_none_gen (fin_bl I q ?_)
  cases x <;> first
    | (cases rx; rfl)
    | (obtain ⟨t, rfl⟩ := rx; rfl)
theorem nomark (b : Expr) {op : CmpOp} (h : op ≠ .In := by decide) (h2 : op ≠ .NotIn := by decide) : behindInMarks op b = false := by
  have e1 : (op == CmpOp.In) = false := by cases op <;> first | rfl | exact absurd rfl h
  have e2 : (op == CmpOp.NotIn) = false := by cases op <;> first | rfl | exact absurd rfl h2
  cases b <;> simp [behindInMarks, e1, e2]
theorem pe_cmpR {op : CmpOp} {r : R2} (ho : OpR X (compareOp op) r) (ha : PE X a ta) (hb : PE X b tb) (hm : behindInMarks op b = false) : PE X (.Compare a [op] [b] pos) (tOp r ta tb) := by
  intro pins s σ H Q I h
  exact wpAny_Compare1 (binT ha hb I h fun v u s2 x y H2 I2 rx ry q => ho pins s2 σ H2 x y v u Q I2 rx ry q) hm
def tTest (t : TE) : TT := fun σ H Q => t σ H fun x H' => ∃ k, x = .bl k ∧ Q k H'
theorem pt_cmpR {op : CmpOp} {r : R2} (ho : OpR X (compareOp op) r) (ha : PE X a ta) (hb : PE X b tb) (hm : behindInMarks op b = false) : PT X (.Compare a [op] [b] pos) (tTest (tOp r ta tb)) := by
  intro pins s σ H Q I h
  refine wpAny_isTrue_Compare1 (thn (ha pins s σ H _ I h) fun v s1 ⟨x, H1, I1, r1, q1⟩ => thn (hb pins s1 σ H1 _ I1 q1) fun u s2 ⟨y, H2, I2, r2, q2⟩ =>
    thn (ho pins s2 σ H2 x y v u _ I2 r1 r2 q2) fun c s3 ⟨z, H3, I3, r3, k, e, q3⟩ => ?_) hm
  subst e
  cases r3
  exact wpAny_truthy_bool ⟨H3, I3, q3⟩
def TruV (K : PySem.W.Frag) (x : V) (H : Hp) (k : Bool) : Prop :=
  match x with
  | .non => k = false
  | .bl b => k = b
  | .int i => k = (i != 0)
  | .str y => y.length ≤ sizeLine ∧ k = ((y.length : Int) != 0)
  | .byt y => y.size ≤ sizeLine ∧ k = ((y.size : Int) != 0)
  | .ref p => (∃ xs, SqL K H p xs ∧ k = !xs.isEmpty) ∨ (∃ xs, SqT K H p xs ∧ k = !xs.isEmpty) ∨ ∃ kvs, H p = some (.dK kvs) ∧ k = !kvs.isEmpty
  | _ => False
theorem isEmpty_kv {κ : Type} {kvs : List (κ × V)} {vs : List (κ × Value)} (r : KV kvs vs) : (!vs.isEmpty) = !kvs.isEmpty := by
  cases r <;> rfl
theorem isEmpty_of {xs : List V} {its : List Value} (r : Vals xs its) : (!its.toArray.isEmpty) = !xs.isEmpty := by
  cases r <;> simp
theorem line63 : (sizeLine : Nat) < 2 ^ 63 := by rw [sizeLine_eq]; decide
theorem tru_ok : TruR X (fun x H Q => ∃ k, TruV X.K x H k ∧ Q k H) := by
  intro pins s σ H x v Q I rx h
  obtain ⟨k, e, q⟩ := h
  have hl := line63
  have hs : sizeLine = 16777216 := sizeLine_eq
  cases x with
  | non =>
    cases rx
    have e' : k = false := e
    subst e'
    exact truthy_none ⟨H, I, q⟩
  | bl b =>
    cases rx
    have e' : k = b := e
    subst e'
    exact wpAny_truthy_bool ⟨H, I, q⟩
  | int i =>
    obtain ⟨t, rfl⟩ := rx
    have e' : k = (i != 0) := e
    subst e'
    exact PySem.P.truthy_int ⟨H, I, q⟩
  | str y =>
    obtain ⟨t, rfl⟩ := rx
    obtain ⟨hy, e'⟩ : y.length ≤ sizeLine ∧ k = ((y.length : Int) != 0) := e
    subst e'
    exact PySem.P.truthy_str (by omega) ⟨H, I.tok _, q⟩
  | byt y =>
    obtain ⟨t, rfl⟩ := rx
    obtain ⟨hy, e'⟩ : y.size ≤ sizeLine ∧ k = ((y.size : Int) != 0) := e
    subst e'
    exact PySem.W.truthy_bytes (by omega) ⟨H, I.tok _, q⟩
  | ref p =>
    cases rx
    have e' : (∃ xs, SqL X.K H p xs ∧ k = !xs.isEmpty) ∨ (∃ xs, SqT X.K H p xs ∧ k = !xs.isEmpty) ∨ ∃ kvs, H p = some (.dK kvs) ∧ k = !kvs.isEmpty := e
    rcases e' with ⟨xs, hx, e'⟩ | ⟨xs, hx, e'⟩ | ⟨kvs, hx, e'⟩
    · subst e'
      obtain ⟨its, r, pl, hz⟩ := I.list hx
      have hlen := r.length
      exact wpAny_truthy_list pl.isList (by simp only [List.size_toArray]; omega) ⟨H, I.tok _, by rw [isEmpty_of r]; exact q⟩
    · subst e'
      obtain ⟨its, r, pl, hz⟩ := I.tuple hx
      have hlen := r.length
      exact truthy_tuple pl (by simp only [List.size_toArray]; omega) ⟨H, I.tok _, by rw [isEmpty_of r]; exact q⟩
    · subst e'
      obtain ⟨hz, hS, vs, r, m⟩ : kvs.length ≤ sizeLine ∧ (p == sysModules) = false ∧ ∃ vs, KV kvs vs ∧ s.heap.DictOf (mixKind X.prog X.w) p vs := I.hok p _ hx
      have hlen : kvs.length = vs.length := Paired.length r
      exact wpAny_truthy_dict hS m (by omega) ⟨H, I.tok _, by rw [isEmpty_kv r]; exact q⟩
  | _ => exact (show False from e).elim
theorem pt_truth (ha : PE X a ta) (he : ∀ whole, isTrue a X.env whole = (do let v ← whole; standAt a.pos; holding [v] (truthy v))) :
    PT X a (fun σ H Q => ta σ H fun x H' => ∃ k, TruV X.K x H' k ∧ Q k H') := by
  intro pins s σ H Q I h
  exact isTrue_plain (thn (ha pins s σ H _ I h) fun v s1 ⟨x, H1, I1, r1, q1⟩ => tru_ok pins s1 σ H1 x v Q I1 r1 q1) (he _)
theorem op_add_str : OpR X (binaryOp .Add) (fun x y H Q => ∃ i j, x = .str i ∧ y = .str j ∧ i.length + j.length ≤ sizeLine ∧ Q (.str (i ++ j)) H) := by
  intro pins s σ H x y v u Q I rx ry h
  obtain ⟨i, j, rfl, rfl, hz, q⟩ := h
  obtain ⟨t, rfl⟩ := rx
  obtain ⟨t', rfl⟩ := ry
  exact add_str (fun t' tk => ⟨.str (i ++ j), H, I.tok _, ⟨_, rfl⟩, q⟩) hz
theorem vals1 {x : V} {us : List Value} (r : Vals [x] us) : ∃ u, us = [u] ∧ RelV x u := by
  cases r with
  | cons r1 r2 => cases r2; exact ⟨_, rfl, r1⟩
theorem vals2 {x y : V} {us : List Value} (r : Vals [x, y] us) : ∃ u w', us = [u, w'] ∧ RelV x u ∧ RelV y w' := by
  cases r with
  | cons r1 r2 =>
    cases r2 with
    | cons r3 r4 => cases r4; exact ⟨_, _, rfl, r1, r3⟩
theorem call_abs : CallR X (.builtin "abs") (fun xs H Q => ∃ i, xs = [.int i] ∧ Q (.int (if i < 0 then -i else i)) H) := by
  intro pins s σ H xs us Q I r h
  obtain ⟨i, rfl, q⟩ := h
  obtain ⟨u, rfl, t, rfl⟩ := vals1 r
  exact call_abs_int fun u tk => ⟨.int (if i < 0 then -i else i), H, I.tok _, ⟨_, rfl⟩, q⟩
theorem call_int1 : CallR X (.type "int") (fun xs H Q => (∃ i, xs = [.int i] ∧ Q (.int i) H) ∨ ∃ k, xs = [.bl k] ∧ Q (.int (if k then 1 else 0)) H) := by
  intro pins s σ H xs us Q I r h
  rcases h with ⟨i, rfl, q⟩ | ⟨k, rfl, q⟩
  · obtain ⟨u, rfl, t, rfl⟩ := vals1 r
    exact call_int_int ⟨.int i, H, I, ⟨_, rfl⟩, q⟩
  · obtain ⟨u, rfl, r1⟩ := vals1 r
    cases r1
    exact call_int_bool ⟨.int (if k then 1 else 0), H, I.tok _, ⟨_, rfl⟩, q⟩
theorem call_divmod : CallR X (.builtin "divmod") (fun xs H Q => ∃ i j, xs = [.int i, .int j] ∧ CDiv i j ∧ ∀ p, H p = none → Q (.ref p) (upd H p (.tup [.int (i / j), .int (i % j)]))) := by
  intro pins s σ H xs us Q I r h
  obtain ⟨i, j, rfl, ⟨h1, h2⟩, q⟩ := h
  obtain ⟨u, w', rfl, ⟨t, rfl⟩, ⟨t', rfl⟩⟩ := vals2 r
  refine divmod_int (by omega) ?_ (.inl (PyProof.noPylong_small (by omega)))
  rw [Int.fdiv_eq_ediv_of_nonneg i (by omega), Int.fmod_eq_emod_of_nonneg i (by omega)]
  have hn : H s.heap.objs.size = none := I.hok.fresh (Nat.le_refl _)
  refine ⟨.ref s.heap.objs.size, _, ?_, rfl, q _ hn⟩
  refine I.laid (fun b o e => Heap.get?_push_of_some _ e) (Nat.le_refl _) ⟨by simp only [List.length_cons, List.length_nil]; rw [sizeLine_eq]; decide, [.int (i / j) s.toks, .int (i % j) (s.toks + 1)], .cons ⟨_, rfl⟩ (.cons ⟨_, rfl⟩ .nil), ?_⟩
  exact ⟨_, Heap.get?_push_size s.heap rfl, rfl, 0, rfl⟩
end
end L2
namespace L2
open PySem PySem.Spec PyProof.Rows
structure ObjM (h : Heap) (x dx C : Addr) (mA : Str → Option Value) : Prop where
  obj : h.get? x = some (PySem.W.instObj C dx)
  ns : h.Ns1 dx mA
  ne : dx ≠ x
theorem lookIn_ns {h : Heap} {dx : Addr} {mA : Str → Option Value} (n : h.Ns1 dx mA) : ∃ od, h.get? dx = some od ∧ ∀ name, PySem.W.lookIn name od = some (mA name) := by
  obtain ⟨o, es, ep, ho, hd, hk, _, hm⟩ := n
  refine ⟨o, ho, fun name => ?_⟩
  have e := hm name
  unfold nsFind findBy at e
  rw [← Array.find?_toList] at e
  unfold PySem.W.lookIn
  rw [hd]
  dsimp only
  split
  · rename_i y q
    rw [q] at e
    exact congrArg some e
  · rename_i q
    rw [q] at e
    have a : es.toList.any (·.refKey) = false := by
      rw [List.any_eq_false]
      intro y hy
      obtain ⟨z, t, hkey⟩ := hk y (Array.mem_toList_iff.mp hy)
      simp [DictEntry.refKey, hkey]
    have a' : ¬ es.toList.any (·.refKey) = true := by rw [a]; exact Bool.false_ne_true
    rw [if_neg a']
    exact congrArg some e
theorem ObjM.look {h : Heap} {x dx C : Addr} {mA : Str → Option Value} (I : ObjM h x dx C mA) : ∃ od, PySem.W.InstAt h x (PySem.W.instObj C dx) C (some od) ∧ ∀ name, PySem.W.lookIn name od = some (mA name) :=
  let ⟨od, ho, hl⟩ := lookIn_ns I.ns
  ⟨od, ⟨I.obj, rfl, rfl, ho⟩, hl⟩
section
variable {prog : Program} {w : World} {A : Around} {E : Value → Shared → Prop} {s : Shared} {K : PySem.W.Frag} {x dx C f : Addr} {mA : Str → Option Value} {name : Str} {v : Value}
end
section
variable {P : Program} {w : World} {H H' : Hp} {h h' : Heap} {a C dx : Addr} {fs fs' : List (Str × V)}
theorem ins_get (hok : HOk P w H h) (e : H a = some (.ins C dx fs)) : ∃ mA, ObjM h a dx C mA ∧ (∀ f, RelO (fs.lookup f) (mA f)) ∧ PySem.Within mA (fs.map (·.1)) ∧ fs.length ≤ 1000 ∧ H dx = some (.own a) := by
  obtain ⟨d, z, ne, ob, mA, n, r, q⟩ := (show ObjOk P w H h a (.ins C dx fs) from hok a _ e)
  exact ⟨mA, ⟨ob, n, ne⟩, r, q, z, d⟩
end
structure Cls (K : PySem.W.Frag) (C : Addr) : Prop where
  pg : PySem.W.plainGet K C Str.empty = true
  hd : PySem.W.hasDictIn K C = true
  po : PySem.W.plainOver K C = true
  sa : PySem.W.findIn K (.ref C) "__setattr__" = some (some (.builtin "object.__setattr__"))
theorem Cls.get {K : PySem.W.Frag} {C : Addr} (c : Cls K C) (f : Str) : PySem.W.plainGet K C f = true := c.pg
structure Con (K : PySem.W.Frag) (C : Addr) (f : Str) (v : V) (u : Value) : Prop where
  at_ : PySem.W.findIn K (.ref C) f = some (some u)
  rel : RelV v u
  get : PySem.W.specialIn K u "__get__" = some none
  cp : PySem.W.copiedNames.contains f = false
structure Meth (K : PySem.W.Frag) (C : Addr) (m : Str) (f : Addr) : Prop where
  at_ : PySem.W.findIn K (.ref C) m = some (some (.ref f))
  fn : PySem.W.isFn K (.ref f) = true
  kp : PySem.W.keepIn K (.ref f) = true
section
variable {X : Cx} {pins : List (Addr × Obj)} {σ : St} {H : Hp} {s : Shared} {a C dx : Addr} {fs : List (Str × V)} {f : Str} {v : V} {A : Around} {E : Value → Shared → Prop}
end
section
variable {X : Cx} {o e value : Expr} {f : Str} {pos pos' tpos : Pos} {ta tv : TE}
end
section
variable {X : Cx} {pins : List (Addr × Obj)} {σ : St} {H : Hp} {s : Shared} {A : Around} {E : Value → Shared → Prop} {Q : Value → Shared → Prop} {c : Value} {b : Bool}
inductive TyOf (K : PySem.W.Frag) (H : Hp) : V → Value → Prop where
  | non : TyOf K H .non (.type "NoneType")
  | bl (x : Bool) : TyOf K H (.bl x) (.type "bool")
  | int (i : Int) : TyOf K H (.int i) (.type "int")
  | str (x : Str) : TyOf K H (.str x) (.type "str")
  | flt (x : UInt64) : TyOf K H (.flt x) (.type "float")
  | lst {a : Addr} {xs : List V} (e : H a = some (.lst xs)) : TyOf K H (.ref a) (.type "list")
  | frz {a : Addr} {o : Obj} {xs : List V} (e : H a = some (.frz o (.lst xs))) : TyOf K H (.ref a) (.type "list")
  | tup {a : Addr} {xs : List V} (e : H a = some (.tup xs)) : TyOf K H (.ref a) (.type "tuple")
  | dK {a : Addr} {kvs : List (Key × V)} (e : H a = some (.dK kvs)) : TyOf K H (.ref a) (.type "dict")
  | dT {a : Addr} {kvs : List (List Key × V)} (e : H a = some (.dT kvs)) : TyOf K H (.ref a) (.type "dict")
  | ins {a C dx : Addr} {fs : List (Str × V)} (e : H a = some (.ins C dx fs)) (cl : Cls K C) (ha : PySem.W.findIn K (.ref C) "__class__" = some (some (.builtin "object.__class__")))
      (hn : PySem.W.specialIn K (.builtin "object.__class__") "__get__" = some (some (.builtin "getset_descriptor.__get__"))) (htk : PySem.W.takesIn K (.builtin "object.__class__") = some true)
      (hm : PySem.W.mroIn K C (.type "object") = some true) : TyOf K H (.ref a) (.ref C)
theorem isinst_ok {x : V} {u t : Value} (I : Inv X pins σ H s) (rx : RelV x u) (ty : TyOf X.K H x t) (e : PySem.W.kitOne X.K t c = some b) (h : ∀ tk, Q (.bool b) { s with toks := tk }) :
    wpAny (model X.prog X.w) A (call (.builtin "isinstance") [u, c]) Q E s := by
  cases ty with
  | non => cases (show u = Value.none from rx); exact PySem.W.kia_one PySem.W.kitx_none I.kIn True.intro e (fun z => nomatch z) h
  | bl y => cases (show u = Value.bool y from rx); exact PySem.W.kia_one PySem.W.kitx_bool I.kIn True.intro e (fun z => nomatch z) h
  | int i => obtain ⟨t, q⟩ := (show ∃ t, u = Value.int i t from rx); cases q; exact PySem.W.kia_one PySem.W.kitx_int I.kIn True.intro e (fun z => nomatch z) h
  | str y => obtain ⟨t, q⟩ := (show ∃ t, u = Value.str y t from rx); cases q; exact PySem.W.kia_one PySem.W.kitx_str I.kIn True.intro e (fun z => nomatch z) h
  | flt y => obtain ⟨t, q⟩ := (show ∃ t, u = Value.float y t from rx); cases q; exact PySem.W.kia_one PySem.W.kitx_float I.kIn True.intro e (fun z => nomatch z) h
  | @lst a xs ea =>
    cases (show u = Value.ref a from rx)
    obtain ⟨_, _, n, _, h1⟩ := (show ObjOk X.prog X.w H s.heap a (.lst xs) from I.hok a _ ea)
    exact PySem.W.kia_one PySem.W.kitx_list I.kIn ⟨_, h1, rfl⟩ e (fun z => nomatch z) h
  | @frz a ob xs ea =>
    cases (show u = Value.ref a from rx)
    obtain ⟨_, _, _, n, _, h1⟩ := (show ObjOk X.prog X.w H s.heap a (.frz ob (.lst xs)) from I.hok a _ ea)
    exact PySem.W.kia_one PySem.W.kitx_list I.kIn ⟨_, h1, rfl⟩ e (fun z => nomatch z) h
  | @tup a xs ea =>
    cases (show u = Value.ref a from rx)
    obtain ⟨_, _, _, p⟩ := (show ObjOk X.prog X.w H s.heap a (.tup xs) from I.hok a _ ea)
    obtain ⟨o, h1, h2, _⟩ := p
    exact PySem.W.kia_one PySem.W.kitx_tuple I.kIn ⟨o, h1, h2⟩ e (fun z => nomatch z) h
  | @dK a kvs ea =>
    cases (show u = Value.ref a from rx)
    obtain ⟨_, _, vs, _, p⟩ := (show ObjOk X.prog X.w H s.heap a (.dK kvs) from I.hok a _ ea)
    obtain ⟨o, es, ep, h1, h2, _⟩ := p
    exact PySem.W.kia_one PySem.W.kitx_dict I.kIn ⟨o, h1, h2.1⟩ e (fun z => nomatch z) h
  | @dT a kvs ea =>
    cases (show u = Value.ref a from rx)
    obtain ⟨_, _, xs, _, o, es, ep, h1, h2, _⟩ := (show ObjOk X.prog X.w H s.heap a (.dT kvs) from I.hok a _ ea)
    exact PySem.W.kia_one PySem.W.kitx_dict I.kIn ⟨o, h1, h2.1⟩ e (fun z => nomatch z) h
  | @ins a C dx fs ea cl ha hn htk hm =>
    cases (show u = Value.ref a from rx)
    obtain ⟨mA, O, _⟩ := ins_get I.hok ea
    obtain ⟨od, J, _⟩ := O.look
    exact PySem.W.kia_one (PySem.W.kitx_own (cl.get _) cl.hd ha hn htk hm) I.kIn J e (fun z => nomatch z) h
end
end L2
namespace L2
open PySem PySem.Spec PyProof.Rows
structure Room (k : Nat) (A : Around) : Prop where
  hd : A.handled = none
  dp : A.depth + 3 * k + 5 < recursionLimit
  un : A.units + 16 * k + 200 < cLine
  gd : A.guards = some []
theorem Room.mono {j k : Nat} {A : Around} (r : Room k A) (h : j ≤ k) : Room j A := ⟨r.hd, by have := r.dp; omega, by have := r.un; omega, r.gd⟩
theorem Room.deeper {k : Nat} {A : Around} (r : Room (k + 1) A) (env : Env) : Room k (A.deeper env) :=
  ⟨r.hd, by have := r.dp; show A.depth + 1 + 3 * k + 5 < _; omega, by have := r.un; show A.units + 3 + 16 * k + 200 < _; omega, r.gd⟩
theorem Room.depth {k : Nat} {A : Around} (r : Room k A) : A.depth < recursionLimit := by have := r.dp; omega
theorem Room.units {k : Nat} {A : Around} (r : Room k A) : A.units + 64 < cLine := by have := r.un; omega
def tNil : TA := fun _ H Q => Q [] H
def tCons (ta : TE) (tr : TA) : TA := fun σ H Q => ta σ H fun x H1 => tr σ H1 fun xs H2 => Q (x :: xs) H2
section
variable {X : Cx} {e : Expr} {es : List Expr} {te : TE} {t : TA} {pos : Pos}
theorem pa_nil : PA X [] tNil := fun _ _ _ _ H Q I h => Calls.spliced_nil ⟨[], H, I, .nil, h⟩
theorem pa_cons (ha : PE X e te) (hr : PA X es t) (hs : starEach (e :: es) X.env = (false, eval e X.env) :: starEach es X.env := by rfl) : PA X (e :: es) (tCons te t) := by
  intro pos pins s σ H Q I h
  rw [hs]
  show wpAny _ _ (spliced ((false, eval e X.env) :: backTo pos (starEach es X.env))) _ _ s
  refine Calls.spliced_cons (thn (ha pins s σ H _ I h) fun u s1 ⟨x, H1, I1, r1, q1⟩ => ?_)
  exact thn (hr pos pins s1 σ H1 _ I1 q1) fun us s2 ⟨xs, H2, I2, r2, q2⟩ => ⟨x :: xs, H2, I2, .cons r1 r2, q2⟩
def tTup (t : TA) : TE := fun σ H Q => t σ H fun xs H1 => xs.length ≤ sizeLine ∧ ∀ p, H1 p = none → Q (.ref p) (upd H1 p (.tup xs))
def tLst (t : TA) : TE := fun σ H Q => t σ H fun xs H1 => xs.length ≤ sizeLine ∧ ∀ p, H1 p = none → Q (.ref p) (upd H1 p (.lst xs))
theorem pe_tup {x1} (h : PA X es t) : PE X (.Tuple es x1 pos) (tTup t) := by
  intro pins s σ H Q I hq
  refine wpAny_Tuple_spliced (thn (h pos pins s σ H _ I hq) fun us s1 ⟨xs, H1, I1, r, z, q⟩ => ⟨by rw [← r.length]; exact z, ?_⟩)
  have hf : H1 s1.heap.objs.size = none := I1.hok.fresh (Nat.le_refl _)
  refine ⟨.ref s1.heap.objs.size, upd H1 s1.heap.objs.size (.tup xs), I1.laid (t' := s1.toks) (fun b u e => Heap.get?_push_of_some _ e) (Nat.le_refl _) ?_, rfl, q _ hf⟩
  exact ⟨z, us, r, ⟨_, Heap.get?_push_size _ rfl, rfl, _, rfl⟩⟩
theorem pe_lst (h : PA X es t) : PE X (.List es pos) (tLst t) := by
  intro pins s σ H Q I hq
  refine wpAny_List_spliced (thn (h pos pins s σ H _ I hq) fun us s1 ⟨xs, H1, I1, r, z, q⟩ => ⟨by rw [← r.length]; exact z, ?_⟩)
  have hf : H1 s1.heap.objs.size = none := I1.hok.fresh (Nat.le_refl _)
  refine ⟨.ref s1.heap.objs.size, upd H1 s1.heap.objs.size (.lst xs), I1.laid (t' := s1.toks) (fun b u e => Heap.get?_push_of_some _ e) (Nat.le_refl _) ?_, rfl, q _ hf⟩
  exact ⟨z, us, 0, r, Heap.get?_push_size _ rfl⟩
end
abbrev Sp := List V → Hp → VK → XK → Prop
abbrev CXT := List Env → Hp → Shared → XK → Value → Shared → Prop
structure Env0 (P : Program) (w : World) (K : PySem.W.Frag) (mg : Str → Option Value) (base : Heap) (A : Around) (outer : List Env) (s : Shared) (H : Hp) : Prop where
  frames : A.frames = some outer
  mod : Mod K mg base
  bs : ∀ b o, base.get? b = some o → s.heap.get? b = some o ∧ H b = none
  bsz : base.objs.size ≤ s.heap.objs.size
  funs : s.heap.FunFrames base outer
  frf : ∀ b ∈ frs outer, H b = none
  hok : HOk P w H s.heap
  bare : AllBare s.gens
def CE (outer : List Env) (P : Program) (w : World) (H : Hp) (s : Shared) (Q : VK) (u : Value) (s' : Shared) : Prop :=
  ∃ v H', s'.os = s.os ∧ AllBare s'.gens ∧ Un (frs outer) [] H H' s.heap s'.heap ∧ HOk P w H' s'.heap ∧ RelV v u ∧ Q v H'
def CR (CX : CXT) (outer : List Env) (P : Program) (w : World) (H : Hp) (s : Shared) (Q : VK) (E : XK) (r : Result) (s' : Shared) : Prop :=
  match r with
  | .ok (.ret u) => CE outer P w H s Q u s'
  | .ok _ => False
  | .error e => CX outer H s E e s'
structure FnOk (P : Program) (w : World) (K : PySem.W.Frag) (mg : Str → Option Value) (base : Heap) (CX : CXT) (k : Nat) (f : Addr) (fd : FuncData) (ps : List Str) (sp : Sp) : Prop where
  len : ∀ vs H Q E, sp vs H Q E → vs.length = ps.length
  run : ∀ (A : Around) (outer : List Env) (s : Shared) (H : Hp) (args : Args) (us : List Value) (vs : List V) (Q : VK) (E : XK), Room k A → Env0 P w K mg base A outer s H → BindsTo s fd args (ps.zip us) → Vals vs us → sp vs H Q E →
    codeAny (model P w) A (.call (.ref f) args) (CR CX outer P w H s Q E) s
section
variable {X : Cx} {pins : List (Addr × Obj)} {σ : St} {H : Hp} {s s' : Shared}
theorem Inv.env0 (I : Inv X pins σ H s) : Env0 X.prog X.w X.K X.mg X.base X.A X.stack s H :=
  ⟨I.ok.frames, I.ok.mod, I.bs, Nat.le_trans I.ok.bsz I.sz, I.stack, I.stkFree, I.hok, I.bare⟩
theorem Inv.after {Q : VK} {u : Value} (I : Inv X pins σ H s) (h : CE X.stack X.prog X.w H s Q u s') : EP X pins σ Q u s' := by
  obtain ⟨v, H', os, bare, un, hok, r, q⟩ := h
  obtain ⟨hh, g, d, t, os'⟩ := s'
  obtain rfl : os' = s.os := os
  exact ⟨v, H', I.call (h' := hh) (g' := g) (d' := d) (t' := t) (ch := []) un hok bare (fun b z => absurd z (by simp)), r, q⟩
end
def tCall (sp : Sp) (dvs : List V) (E : XK) (t : TA) : TE := fun σ H Q => t σ H fun vs H1 => sp (vs ++ dvs) H1 Q E
def Binds (K : PySem.W.Frag) (fd : FuncData) (ps : List Str) (ds : List Value) : Prop :=
  ∀ (s : Shared) (us : List Value), K.In s.heap → (us ++ ds).length = ps.length → BindsTo s fd ⟨us, []⟩ (ps.zip (us ++ ds))
theorem Binds.all {K : PySem.W.Frag} {fd : FuncData} {ps : List Str} (h : ∀ us : List Value, us.length = ps.length → bindArgs fd ⟨us, []⟩ = pure (ps.zip us)) : Binds K fd ps [] := fun s us _ hl => by
  rw [List.append_nil] at hl ⊢
  exact .of_eq (h us hl)
def Passes (CX : CXT) (X : Cx) (E : XK) : Prop := ∀ (pins : List (Addr × Obj)) (σ : St) (H : Hp) (s : Shared) (e : Value) (s' : Shared), Inv X pins σ H s → CX X.stack H s E e s' → X.xe e s'
section
variable {X : Cx} {CX : CXT} {k : Nat} {f C : Addr} {fd : FuncData} {ps : List Str} {sp : Sp} {dvs : List V} {ds : List Value} {E : XK} {x m : Str} {p pos apos : Pos} {e o : Expr} {es : List Expr} {ta : TE} {t : TA}
theorem run_fn {pins : List (Addr × Obj)} {σ : St} {H : Hp} {s : Shared} {Q : VK} {us : List Value} {vs : List V} (F : FnOk X.prog X.w X.K X.mg X.base CX k f fd ps sp) (hr : Room k X.A) (hb : Binds X.K fd ps ds) (hd : Vals dvs ds) (hx : Passes CX X E)
    (I : Inv X pins σ H s) (r : Vals vs us) (h : sp (vs ++ dvs) H Q E) : wpAny (model X.prog X.w) X.A (call (.ref f) us) (EP X pins σ Q) X.xe s := by
  have r2 : Vals (vs ++ dvs) (us ++ ds) := r.append hd
  have hl : (us ++ ds).length = ps.length := by rw [← r2.length]; exact F.len _ _ _ _ h
  refine wpAny_call (codeAny_mono (F.run X.A X.stack s H ⟨us, []⟩ (us ++ ds) (vs ++ dvs) Q E hr I.env0 (hb s us I.kIn hl) r2 h) fun r s' hq => ?_)
  cases r with
  | error e => exact hx pins σ H s e s' I hq
  | ok fl =>
    cases fl with
    | ret u => exact I.after hq
    | next => exact False.elim hq
    | brk => exact False.elim hq
    | cont => exact False.elim hq
theorem pe_call (F : FnOk X.prog X.w X.K X.mg X.base CX k f fd ps sp) (hr : Room k X.A) (hg : Gl X x) (hm : X.mg x = some (.ref f)) (hk : PySem.W.keepIn X.K (.ref f) = true) (hb : Binds X.K fd ps ds) (hd : Vals dvs ds) (hx : Passes CX X E)
    (ha : PA X (e :: es) t) (hdb : (x == ("__debug__" : Str)) = false := by decide) (he : starEach (e :: es) X.env = (false, eval e X.env) :: starEach es X.env := by rfl) (hpl : (backTo pos (starEach es X.env)).any (·.1) = false := by rfl) :
    PE X (.Call (.Name x p) (e :: es) [] pos) (tCall sp dvs E t) := by
  intro pins s σ H Q I h
  refine wpAny_Call_Name_kw (ld_glob I hg hm ?_ hdb)
  refine PySem.W.callWith_K (h₀ := X.base) I.ok.mod.kin hk (thn (ha pos pins s σ H _ I h) fun us s1 ⟨vs, H1, I1, r, q⟩ => ⟨I1.kIn, ?_⟩) he hpl
  exact run_fn F hr hb hd hx I1 r q
structure Mk (K : PySem.W.Frag) (C f : Addr) : Prop where
  makes : PySem.W.makesIn K C = true
  init : PySem.W.findIn K (.ref C) "__init__" = some (some (.ref f))
  fn : PySem.W.isFn K (.ref f) = true
  kp : PySem.W.keepIn K (.ref C) = true
end
section
variable {X : Cx} {CX : CXT} {k : Nat} {f C : Addr} {fd : FuncData} {ps ks : List Str} {sp : Sp} {E : XK} {x m : Str} {p pos apos kpos : Pos} {e o : Expr} {es : List Expr} {kws : List Keyword} {te ta : TE} {t tk : TA} {nm : Option Str}
structure KBinds (K : PySem.W.Frag) (fd : FuncData) (ps ks : List Str) (g : List Value → List Value → List Value) (gV : List V → List V → List V) : Prop where
  to : ∀ (s : Shared) (us ws : List Value), K.In s.heap → (g us ws).length = ps.length → BindsTo s fd ⟨us, ks.zip ws⟩ (ps.zip (g us ws))
  rel : ∀ {vs : List V} {us : List Value} {zs : List V} {ws : List Value}, Vals vs us → Vals zs ws → Vals (gV vs zs) (g us ws)
variable {g : List Value → List Value → List Value} {gV : List V → List V → List V}
end
structure FnScope (N P : List Str) (sc : Scope) : Prop where
  kind : sc.kind = .function
  co : sc.isCoroutine = false
  gen : sc.isGenerator = false
  nd : N.Nodup
  pre : N.take P.length = P
  par : ∀ x ∈ P, sc.names.lookup x = some .local ∨ sc.names.lookup x = some .cell
  nofree : ∀ y ∈ sc.names, y.2 ≠ .free
theorem bindL_out {kindOf : Str → Option NameKind} {x : Str} : ∀ {binds : List (Str × Value)} {m : Str → Option Value}, (∀ v, (x, v) ∉ binds) → bindL kindOf binds m x = m x
  | [], _, _ => rfl
  | (n, v) :: r, m, h => by
    unfold bindL
    rw [bindL_out fun w hw => h w (List.mem_cons_of_mem _ hw)]
    split
    · have : x ≠ n := by rintro rfl; exact h v List.mem_cons_self
      simp [this]
    · rfl
theorem bindC_out {kindOf : Str → Option NameKind} {x : Str} : ∀ {binds : List (Str × Value)} {m : Str → Option Value}, (∀ v, (x, v) ∉ binds) → bindC kindOf binds m x = m x
  | [], _, _ => rfl
  | (n, v) :: r, m, h => by
    unfold bindC
    rw [bindC_out fun w hw => h w (List.mem_cons_of_mem _ hw)]
    split
    · rfl
    · have : x ≠ n := by rintro rfl; exact h v List.mem_cons_self
      simp [this]
theorem bindL_get {kindOf : Str → Option NameKind} {x : Str} {v : Value} : ∀ {P : List Str} {vs : List Value} {i : Nat} {m : Str → Option Value}, P.Nodup → P[i]? = some x → vs[i]? = some v → kindOf x = some .local →
    bindL kindOf (P.zip vs) m x = some v
  | [], _, _, _, _, h, _, _ => by simp at h
  | _ :: _, [], _, _, _, _, h, _ => by simp at h
  | p :: P, w :: vs, 0, m, nd, h1, h2, hk => by
    simp at h1 h2; subst h1; subst h2
    show bindL kindOf ((p, w) :: P.zip vs) m p = _
    unfold bindL
    rw [bindL_out fun v hv => (List.nodup_cons.mp nd).1 (List.of_mem_zip hv).1, if_pos hk]
    simp
  | p :: P, w :: vs, i + 1, m, nd, h1, h2, hk => by
    show bindL kindOf ((p, w) :: P.zip vs) m x = _
    unfold bindL
    exact bindL_get (i := i) (List.nodup_cons.mp nd).2 (by simpa using h1) (by simpa using h2) hk
theorem bindC_get {kindOf : Str → Option NameKind} {x : Str} {v : Value} : ∀ {P : List Str} {vs : List Value} {i : Nat} {m : Str → Option Value}, P.Nodup → P[i]? = some x → vs[i]? = some v → kindOf x ≠ some .local →
    bindC kindOf (P.zip vs) m x = some v
  | [], _, _, _, _, h, _, _ => by simp at h
  | _ :: _, [], _, _, _, _, h, _ => by simp at h
  | p :: P, w :: vs, 0, m, nd, h1, h2, hk => by
    simp at h1 h2; subst h1; subst h2
    show bindC kindOf ((p, w) :: P.zip vs) m p = _
    unfold bindC
    rw [bindC_out fun v hv => (List.nodup_cons.mp nd).1 (List.of_mem_zip hv).1, if_neg hk]
    simp
  | p :: P, w :: vs, i + 1, m, nd, h1, h2, hk => by
    show bindC kindOf ((p, w) :: P.zip vs) m x = _
    unfold bindC
    exact bindC_get (i := i) (List.nodup_cons.mp nd).2 (by simpa using h1) (by simpa using h2) hk
def start (N : List Str) (vs : List V) : St := vs.map some ++ List.replicate (N.length - vs.length) none
def cxOf (CX : CXT) (P : Program) (w : World) (K : PySem.W.Frag) (mg : Str → Option Value) (base : Heap) (N : List Str) (qual : Str) (scope : Scope) (f : Addr) (cd : Value) (A : Around) (outer : List Env) (s : Shared) (H : Hp) (E : XK) : Cx where
  prog := P
  w := w
  K := K
  mg := mg
  base := base
  A := A.deeper (envOfC qual scope s.heap.objs.size f cd)
  N := N
  s₀ := s
  H₀ := H
  env := envOfC qual scope s.heap.objs.size f cd
  outer := outer
  stack := envOfC qual scope s.heap.objs.size f cd :: outer
  ex := []
  calm := true
  fn := fun _ => true
  pn := []
  xe := fun e s' => wpAny (model P w) (A.deeper (envOfC qual scope s.heap.objs.size f cd)) (leaving (envOfC qual scope s.heap.objs.size f cd) e) (fun _ s'' => CX outer H s E e s'') (fun e' s'' => CX outer H s E e' s'') s'
theorem cell_has {sc : Scope} {n : Nat} {x : Str} (h : sc.names.lookup x = some .cell) : ∃ c, (cellsFrom n sc.names []).lookup x = some c := by
  have q := PySem.W.cellsFrom_some sc.names n [] (.inl h)
  exact Option.isSome_iff_exists.mp q
theorem inv_start {CX : CXT} {P : Program} {w : World} {K : PySem.W.Frag} {mg : Str → Option Value} {base : Heap} {N ps : List Str} {qual : Str} {scope : Scope} {f : Addr} {cd : Value} {A : Around} {outer : List Env} {s s1 : Shared} {H : Hp} {E : XK} {us : List Value} {vs : List V}
    (S : FnScope N ps scope) (hd : A.handled = none) (e0 : Env0 P w K mg base A outer s H) (hl : vs.length = ps.length) (r : Vals vs us)
    (x : InCallC s s.heap.objs.size (bindL (envOfC qual scope s.heap.objs.size f cd).kindOf (ps.zip us) fun _ => none) (cellsFrom (s.heap.objs.size + 1) scope.names []) (bindC (envOfC qual scope s.heap.objs.size f cd).kindOf (ps.zip us) fun _ => none) s1) :
    Inv (cxOf CX P w K mg base N qual scope f cd A outer s H E) [] (start N vs) H s1 := by
  have hpl : ps.length ≤ N.length := by have := congrArg List.length S.pre; rw [List.length_take] at this; omega
  obtain ⟨h1, tk, rfl, hk⟩ := x.done
  have noA : ∀ b : Addr, b ∉ (cxOf CX P w K mg base N qual scope f cd A outer s H E).ex := fun b z => absurd (show b ∈ ([] : List Addr) from z) (by simp)
  refine ⟨⟨e0.mod, S.kind, rfl, rfl, Nat.le_refl _, fun y z c h1 h2 => ?_, fun y hy => ?_, fun y c _ h => ?_, fun _ => hd, Around.frames_deeper e0.frames, .inr ⟨rfl, rfl⟩, fun b z => absurd z (noA b), e0.bs, e0.bsz, fun b _ _ => noA b, fun b z => absurd z (noA b), e0.funs, e0.frf⟩,
    rfl, e0.bare, Un.kept hk, ⟨_, x.toInCall.ns, fun i y v h1 h2 h3 => ?_⟩, fun y c h => ⟨_, x.cell y c h⟩, e0.hok.fresh (Nat.le_refl _), fun y c h => ?_, fun p hp => absurd (show p ∈ ([] : List (Addr × Obj)) from hp) (by simp), e0.hok.kept hk, ?_⟩
  · exact name_of_addr x.apart (PySem.mem_of_lookup h1) (PySem.mem_of_lookup h2)
  · have hy : scope.names.lookup y = some .cell ∨ scope.names.lookup y = some .free := hy
    rcases hy with hy | hy
    · exact cell_has hy
    · exact absurd rfl (S.nofree _ (PySem.mem_of_lookup hy))
  · exact Nat.le_of_lt (x.above y c (PySem.mem_of_lookup h))
  · have hi : i < vs.length := by
      unfold start at h2
      by_cases hi : i < vs.length
      · exact hi
      · rw [List.getElem?_append_right (by simpa using hi)] at h2
        rw [List.getElem?_replicate] at h2
        split at h2 <;> cases h2
    have ha : vs[i]? = some v := by
      unfold start at h2
      rw [List.getElem?_append_left (by simpa using hi), List.getElem?_map] at h2
      cases e : vs[i]? with
      | none => rw [e] at h2; cases h2
      | some a => rw [e] at h2; cases h2; rfl
    obtain ⟨u, hu, rv⟩ := r.get ha
    have hp : ps[i]? = some y := by
      rw [← S.pre, List.getElem?_take_of_lt (by omega)]; exact h1
    have ndP : ps.Nodup := by rw [← S.pre]; exact S.nd.sublist (List.take_sublist _ _)
    refine ⟨u, rv, ?_⟩
    rcases S.par y (List.mem_of_getElem? hp) with k | k
    · exact .inl ⟨k, bindL_get ndP hp hu k⟩
    · obtain ⟨c, e⟩ := cell_has (n := s.heap.objs.size + 1) k
      refine .inr ⟨.inl k, c, e, ?_⟩
      have q := x.cell y c e
      rw [bindC_get ndP hp hu (by show scope.names.lookup y ≠ _; rw [k]; decide)] at q
      exact q
  · exact e0.hok.fresh (Nat.le_of_lt (x.above y c (PySem.mem_of_lookup h)))
  · unfold start
    show _ = N.length
    rw [List.length_append, List.length_map, List.length_replicate]
    omega
theorem fn_of {CX : CXT} {P : Program} {w : World} {K : PySem.W.Frag} {mg : Str → Option Value} {base : Heap} {k : Nat} {f : Addr} {name qual : Str} {params : Arguments} {body : List Stmt} {scope : Scope} {dV kV doc pm cdv ct oc : Value} {an od : Option Addr}
    {osl : Array (Option Value)} {N ps : List Str} {sp : Sp} (lk : K.lookup f = some ⟨oc, od, .func (PySem.W.fnOf name qual params body scope dV kV doc pm an cdv ct), osl⟩) (hcd : PySem.W.codeIn K cdv qual = true) (S : FnScope N ps scope)
    (len : ∀ vs H Q E, sp vs H Q E → vs.length = ps.length)
    (hbody : ∀ (A : Around) (outer : List Env) (s : Shared) (H : Hp) (vs : List V) (Q : VK) (E : XK), Room k (A.deeper (envOfC qual scope s.heap.objs.size f cdv)) → sp vs H Q E →
      ∃ t, PSs (cxOf CX P w K mg base N qual scope f cdv A outer s H E) body t ∧ t { nx := fun _ H' => Q .non H', rt := Q } (start N vs) H) :
    FnOk P w K mg base CX (k + 1) f (PySem.W.fnOf name qual params body scope dV kV doc pm an cdv ct) ps sp := by
  refine ⟨len, fun A outer s H args us vs Q E hr e0 hb r hsp => ?_⟩
  have hl := len _ _ _ _ hsp
  have KX : K.In s.heap := e0.mod.kin.keeps fun b o e => (e0.bs b o e).1
  have lim : s.heap.NoLimit := e0.mod.nolimit.keeps fun b o e => (e0.bs b o e).1
  have hkind : ∀ y ∈ ps.zip us, scope.names.lookup y.1 = some .local ∨ (scope.names.lookup y.1 = some .cell ∧ ((cellsFrom (s.heap.objs.size + 1) scope.names []).lookup y.1).isSome = true) := fun ⟨n, v⟩ hy => by
    rcases S.par n (List.of_mem_zip hy).1 with q | q
    · exact .inl q
    · exact .inr ⟨q, PySem.W.cellsFrom_some _ _ _ (.inl q)⟩
  refine codeAny_call_function hr.depth (KX _ _ lk) rfl S.co S.gen rfl (PySem.W.codeRec_of KX hcd) (hb _ _ _ _ ?_)
  refine wpAny_newFunctionEnv_cells S.kind hkind fun env he s1 x => ?_
  subst he
  refine ⟨lim.keeps x.toInCall.keep, codeAny_func ?_⟩
  obtain ⟨t, ht, hq⟩ := hbody A outer s H vs Q E (hr.deeper _) hsp
  have I : Inv (cxOf CX P w K mg base N qual scope f cdv A outer s H E) [] (start N vs) H s1 := inv_start S hr.hd e0 hl r x
  refine wpAny_mono (ht [] s1 (start N vs) H _ I hq) (fun fl s' hs => ?_) fun e s' hs => hs
  have fin : ∀ {σ' : St} {H' : Hp} {v : V} {u : Value}, Inv (cxOf CX P w K mg base N qual scope f cdv A outer s H E) [] σ' H' s' → RelV v u → Q v H' → CE outer P w H s Q u s' :=
    fun {σ' H' v u} J rv q => ⟨v, H', J.os, J.bare, J.base, J.hok, rv, q⟩
  cases fl with
  | ret u =>
    obtain ⟨v, σ', H', J, rv, q⟩ := hs
    exact fin J rv q
  | next =>
    obtain ⟨σ', H', J, q⟩ := hs
    exact fin (v := V.non) (u := Value.none) J rfl q
  | brk =>
    obtain ⟨_, _, _, q⟩ := hs
    exact False.elim q
  | cont =>
    obtain ⟨_, _, _, q⟩ := hs
    exact False.elim q
end L2
namespace L2
open PySem PySem.Spec PyProof.Rows
section
variable {X : Cx} {x : Str} {p pos : Pos} {e : Expr} {es : List Expr} {t : TA} {id T : String} {r : List V → Hp → VK → Prop}
def tCB (r : List V → Hp → VK → Prop) (t : TA) : TE := fun σ H Q => t σ H fun vs H1 => r vs H1 Q
theorem pe_callB (hc : CallR X (.builtin id) r) (hg : Gl X x) (hm : X.mg x = none) (hv : bootBuiltins x = some (.builtin id)) (ha : PA X (e :: es) t) (hn : x ≠ "__name__" := by decide) (hdb : (x == ("__debug__" : Str)) = false := by decide)
    (he : starEach (e :: es) X.env = (false, eval e X.env) :: starEach es X.env := by rfl) (hpl : (backTo pos (starEach es X.env)).any (·.1) = false := by rfl) : PE X (.Call (.Name x p) (e :: es) [] pos) (tCB r t) := by
  intro pins s σ H Q I h
  refine wpAny_Call_Name_kw (ld_blt I hg hm hv ?_ hn hdb)
  exact PyProof.Rows.callWith_builtin1 (thn (ha pos pins s σ H _ I h) fun us s1 ⟨vs, H1, I1, r1, q1⟩ => hc pins s1 σ H1 vs us Q I1 r1 q1) he hpl
theorem pe_callTy (hc : CallR X (.type T) r) (hg : Gl X x) (hm : X.mg x = none) (hv : bootBuiltins x = some (.type T)) (ha : PA X (e :: es) t) (hn : x ≠ "__name__" := by decide) (hdb : (x == ("__debug__" : Str)) = false := by decide)
    (he : starEach (e :: es) X.env = (false, eval e X.env) :: starEach es X.env := by rfl) (hpl : (backTo pos (starEach es X.env)).any (·.1) = false := by rfl) : PE X (.Call (.Name x p) (e :: es) [] pos) (tCB r t) := by
  intro pins s σ H Q I h
  refine wpAny_Call_Name_kw (ld_blt I hg hm hv ?_ hn hdb)
  exact PyProof.Rows.callWith_type1 (thn (ha pos pins s σ H _ I h) fun us s1 ⟨vs, H1, I1, r1, q1⟩ => hc pins s1 σ H1 vs us Q I1 r1 q1) he hpl
end
end L2
namespace HT
open PySem PyProof.Rows
section
open PySem.SeqAt
open PySem.AutoSeq1 (wpAny_loadPart')
open PySem.MeetsSeq PySem.MeetsSeq2 PySem.MeetsSeq3
end
section
variable {prog : Program} {w : World} {A : Around} {E : Value → Shared → Prop} {s : Shared}
def sIx (n d : Nat) : Option Int → Nat
  | none => d
  | some v => if v < 0 then (v + (n : Int)).toNat else min v.toNat n
end
end HT
namespace L2
open PySem PySem.Spec PyProof.Rows
abbrev TO := St → Hp → (Option Int → Hp → Prop) → Prop
def PO (X : Cx) (e : Option Expr) (t : TO) : Prop :=
  ∀ (pins : List (Addr × Obj)) (s : Shared) (σ : St) (H : Hp) (Q : Option Int → Hp → Prop), Inv X pins σ H s → t σ H Q →
    wpAny (model X.prog X.w) X.A (evalPart e X.env) (fun u s' => ∃ o H', Inv X pins σ H' s' ∧ IsPart u o ∧ Q o H') X.xe s
def tNoPart : TO := fun _ H Q => Q none H
def tPart (t : TE) : TO := fun σ H Q => t σ H fun x H1 => ∃ i, x = .int i ∧ Q (some i) H1
section
variable {X : Cx} {e : Expr} {te : TE} {lo hi : Option Expr} {tl th : TO} {pos p2 : Pos}
theorem po_none : PO X none tNoPart := by
  intro pins s σ H Q I h
  rw [evalPart_none]
  exact wpAny_pure ⟨none, H, I, .none, h⟩
theorem po_some (h : PE X e te) : PO X (some e) (tPart te) := by
  intro pins s σ H Q I hw
  rw [evalPart_some]
  refine thn (h pins s σ H _ I hw) fun u s1 ⟨x, H1, I1, r1, q1⟩ => ?_
  obtain ⟨i, rfl, q⟩ := q1
  obtain ⟨t, rfl⟩ := r1
  exact ⟨some i, H1, I1, .int i t, q⟩
def SlR (X : Cx) (r : V → Option Int → Option Int → Hp → VK → Prop) : Prop :=
  ∀ (pins : List (Addr × Obj)) (s : Shared) (σ : St) (H : Hp) (x : V) (v vl vu : Value) (lo hi : Option Int) (sl : Addr) (Q : VK), Inv X pins σ H s → RelV x v → s.heap.IsSliceOf sl vl vu .none → IsPart vl lo → IsPart vu hi → r x lo hi H Q →
    ∃ T id, typeLookup (.type T) "__getitem__" = pure (some (.builtin id)) ∧ s.TypeIs v T ∧ wpAny (model X.prog X.w) X.A (getItem v (.ref sl)) (EP X pins σ Q) X.xe s
def tSl (r : V → Option Int → Option Int → Hp → VK → Prop) (te : TE) (tl th : TO) : TE := fun σ H Q => te σ H fun x H1 => tl σ H1 fun l H2 => th σ H2 fun u H3 => r x l u H3 Q
theorem pe_slice {r : V → Option Int → Option Int → Hp → VK → Prop} (hr : SlR X r) (he : PE X e te) (hl : PO X lo tl) (hu : PO X hi th) : PE X (.Subscript e (.Slice lo hi none p2) pos) (tSl r te tl th) := by
  intro pins s σ H Q I h
  refine Subscript_ (thn (he pins s σ H _ I h) fun v s1 ⟨x, H1, I1, r1, q1⟩ => ?_)
  refine wpAny_Slice (thn (hl pins s1 σ H1 _ I1 q1) fun vl s2 ⟨l, H2, I2, pl, q2⟩ => thn (hu pins s2 σ H2 _ I2 q2) fun vu s3 ⟨u, H3, I3, pu, q3⟩ => ?_)
  rw [evalPart_none]
  refine wpAny_pure ?_
  have I4 : Inv X pins σ H3 { s3 with heap := s3.heap.push { cls := .type "slice", data := .fields #[vl, vu, .none] } } := I3.kept (t' := s3.toks) fun b ob q => Heap.get?_push_of_some _ q
  obtain ⟨T, id, hT, ht, hg⟩ := hr pins { s3 with heap := s3.heap.push { cls := .type "slice", data := .fields #[vl, vu, .none] } } σ H3 x v vl vu l u s3.heap.objs.size Q I4 r1 (Heap.IsSliceOf.new ..) pl pu q3
  show wpAny (model X.prog X.w) X.A (subscriptTail e (.Slice lo hi none p2) v (.ref s3.heap.objs.size)) (EP X pins σ Q) X.xe { s3 with heap := s3.heap.push { cls := .type "slice", data := .fields #[vl, vu, .none] } }
  exact tail_any (ops := [.ref s3.heap.objs.size, v]) ht hT hg (by with_unfolding_all rfl)
def cutV (xs : List V) (lo hi : Option Int) : List V := (xs.drop (HT.sIx xs.length 0 lo)).take (HT.sIx xs.length xs.length hi - HT.sIx xs.length 0 lo)
theorem cutV_length (xs : List V) (lo hi : Option Int) : (cutV xs lo hi).length ≤ xs.length := by
  unfold cutV
  rw [List.length_take, List.length_drop]
  omega
end
end L2
namespace L2
open PySem PySem.Spec PyProof.Rows
def ixN (n : Nat) (i : Int) : Option Nat := if 0 ≤ i then (if i < n then some i.toNat else none) else if -(n : Int) ≤ i then some (i + n).toNat else none
def atI {α : Type} (xs : List α) (i : Int) : Option α := (ixN xs.length i).bind fun j => xs[j]?
theorem ixN_seq {n : Nat} {i : Int} {j : Nat} (h : ixN n i = some j) : seqIndex? i n = some j ∧ j < n ∧ -(n : Int) ≤ i ∧ i < n := by
  unfold ixN at h
  by_cases h0 : 0 ≤ i
  · rw [if_pos h0] at h
    by_cases h1 : i < n
    · rw [if_pos h1] at h
      have e : i.toNat = j := Option.some.inj h
      exact ⟨by rw [seqIndex_of h0 h1, e], by omega, by omega, h1⟩
    · rw [if_neg h1] at h; cases h
  · rw [if_neg h0] at h
    by_cases h1 : -(n : Int) ≤ i
    · rw [if_pos h1] at h
      have e : (i + n).toNat = j := Option.some.inj h
      exact ⟨by rw [seqIndex_neg (by omega) h1, e], by omega, h1, by omega⟩
    · rw [if_neg h1] at h; cases h
theorem atI_get {α : Type} {xs : List α} {i : Int} {v : α} (h : atI xs i = some v) : ∃ j, seqIndex? i xs.length = some j ∧ xs[j]? = some v ∧ j < xs.length ∧ -(xs.length : Int) ≤ i ∧ i < xs.length := by
  unfold atI at h
  cases e : ixN xs.length i with
  | none => rw [e] at h; cases h
  | some j =>
    rw [e] at h
    obtain ⟨h1, h2, h3, h4⟩ := ixN_seq e
    exact ⟨j, h1, h, h2, h3, h4⟩
theorem atI_nat {α : Type} {xs : List α} {j : Nat} {v : α} (h : xs[j]? = some v) : atI xs (j : Int) = some v := by
  have hj : j < xs.length := (List.getElem?_eq_some_iff.mp h).1
  have e : ixN xs.length (j : Int) = some j := by
    unfold ixN
    rw [if_pos (by omega), if_pos (by omega)]; simp
  unfold atI; rw [e]; exact h
def PlainIx (b : Expr) : Prop := ∀ o i, subscripted b false o i = operate [o, i] (getItem o i)
def IxR (X : Cx) (r : R2) : Prop :=
  ∀ (value slice : Expr) (pins : List (Addr × Obj)) (s : Shared) (σ : St) (H : Hp) (x y : V) (v u : Value) (Q : VK), Inv X pins σ H s → RelV x v → RelV y u → r x y H Q →
    subscripted slice false v u = operate [v, u] (getItem v u) → wpAny (model X.prog X.w) X.A (subscriptTail value slice v u) (EP X pins σ Q) X.xe s
def MtR (X : Cx) (id : String) (r : V → List V → Hp → VK → Prop) : Prop :=
  ∀ (pins : List (Addr × Obj)) (s : Shared) (σ : St) (H : Hp) (x : V) (xs : List V) (v : Value) (us : List Value) (Q : VK), Inv X pins σ H s → RelV x v → Vals xs us → r x xs H Q →
    wpAny (model X.prog X.w) X.A (call (.builtin id) (v :: us)) (EP X pins σ Q) X.xe s
section
variable {X : Cx} {a b : Expr} {ta tb : TE} {pos : Pos}
theorem pe_ix {r : R2} (hr : IxR X r) (ha : PE X a ta) (hb : PE X b tb) (hs : PlainIx b) : PE X (.Subscript a b pos) (tOp r ta tb) := by
  intro pins s σ H Q I h
  exact Subscript_ (binT ha hb I h fun v u s2 x y H2 I2 rx ry q => hr a b pins s2 σ H2 x y v u Q I2 rx ry q (hs _ _))
def rIxL (K : PySem.W.Frag) : R2 := fun x y H Q => ∃ p xs i v, x = .ref p ∧ y = .int i ∧ SqL K H p xs ∧ atI xs i = some v ∧ Q v H
def rIxT (K : PySem.W.Frag) : R2 := fun x y H Q => ∃ p xs i v, x = .ref p ∧ y = .int i ∧ SqT K H p xs ∧ atI xs i = some v ∧ Q v H
def rIxS : R2 := fun x y H Q => ∃ z i c, x = .str z ∧ y = .int i ∧ z.length ≤ sizeLine ∧ atI z.cps.toList i = some c ∧ Q (.str ⟨#[c]⟩) H
theorem ix_list : IxR X (rIxL X.K) := by
  intro value slice pins s σ H x y v u Q I rx ry h hs
  obtain ⟨p, xs, i, z, rfl, rfl, hq, he, q⟩ := h
  cases rx
  obtain ⟨t, rfl⟩ := ry
  obtain ⟨its, r, pl, hz⟩ := I.list hq
  obtain ⟨j, h1, h2, h3, h4, h5⟩ := atI_get he
  obtain ⟨w, ew, rw'⟩ := r.get h2
  have hl := r.length
  have hn := line63
  have fin : EP X pins σ Q w s := ⟨z, H, I, rw', q⟩
  by_cases h0 : 0 ≤ i
  · have hj : i.toNat = j := by
      rw [seqIndex_of h0 h5] at h1
      exact Option.some.inj h1
    exact item_listR pl.isList h0 (by omega) (by rw [hj]; simpa using ew) fin hs
  · have hj : (i + (its.toArray.size : Int)).toNat = j := by
      rw [seqIndex_neg (by omega) h4] at h1
      rw [List.size_toArray, ← hl]
      exact Option.some.inj h1
    exact subscriptTail_builtinR (x := w) pl.isList.typeIs slot_list_getitem.lookup
      (wpAny_getItem_list_neg (Q := fun r s' => r = w ∧ EP X pins σ Q r s') pl.isList (by omega) (by rw [List.size_toArray] <;> omega) (by omega) (by rw [hj]; simpa using ew) ⟨rfl, fin⟩) hs
theorem ix_tup : IxR X (rIxT X.K) := by
  intro value slice pins s σ H x y v u Q I rx ry h hs
  obtain ⟨p, xs, i, z, rfl, rfl, hq, he, q⟩ := h
  cases rx
  obtain ⟨t, rfl⟩ := ry
  obtain ⟨its, r, pl, hz⟩ := I.tuple hq
  obtain ⟨j, h1, h2, h3, h4, h5⟩ := atI_get he
  obtain ⟨w, ew, rw'⟩ := r.get h2
  have hl := r.length
  have hn := line63
  have fin : EP X pins σ Q w s := ⟨z, H, I, rw', q⟩
  exact subscriptTail_builtinR (x := w) pl.typeIs slot_tuple_getitem.lookup
    (getItem_tuple (j := j) (Q := fun r s' => r = w ∧ EP X pins σ Q r s') pl (by omega) (by omega) (by rw [List.size_toArray, ← hl]; exact h1) (by simpa using ew) ⟨rfl, fin⟩) hs
theorem ix_str : IxR X rIxS := by
  intro value slice pins s σ H x y v u Q I rx ry h hs
  obtain ⟨z, i, c, rfl, rfl, hz, he, q⟩ := h
  obtain ⟨t, rfl⟩ := rx
  obtain ⟨t', rfl⟩ := ry
  obtain ⟨j, h1, h2, h3, h4, h5⟩ := atI_get he
  have hl : z.cps.toList.length = z.length := by simp [Str.length]
  rw [hl] at h1 h4 h5
  have hn := line63
  exact tail_any (typeIs_str s z t) slot_str_getitem.lookup (getItem_str (c := c) (by
    have e1 : decide (i < -(2 ^ 63 : Int)) = false := decide_eq_false (by omega)
    have e2 : decide (i ≥ 2 ^ 63) = false := decide_eq_false (by omega)
    rw [e1, e2, Bool.or_false]) (by rw [h1]; simpa using h2) ⟨.str ⟨#[c]⟩, H, I.tok _, ⟨_, rfl⟩, q⟩) hs
theorem mapSeq_set (its : List Value) (n j : Nat) (u : Value) : Obj.mapSeq (·.setIfInBounds j u) { cls := .type "list", data := .seq its.toArray n } = { cls := .type "list", data := .seq (its.set j u).toArray n } := by
  simp [Obj.mapSeq]
theorem Inv.lst {pins : List (Addr × Obj)} {σ : St} {H : Hp} {s : Shared} {p : Addr} {xs : List V} (I : Inv X pins σ H s) (h : H p = some (.lst xs)) :
    ∃ (its : List Value) (n : Nat), Vals xs its ∧ s.heap.get? p = some { cls := .type "list", data := .seq its.toArray n } ∧ xs.length ≤ sizeLine := by
  obtain ⟨z, its, n, r, e⟩ := I.hok p _ h
  exact ⟨its, n, r, e, z⟩
theorem Inv.lstUpd {pins : List (Addr × Obj)} {σ : St} {H : Hp} {s : Shared} {p : Addr} {xs ys : List V} {its its' : List Value} {n n' : Nat} {f : Obj → Obj} (I : Inv X pins σ H s) (h : H p = some (.lst xs))
    (ho : s.heap.get? p = some { cls := .type "list", data := .seq its.toArray n }) (hf : f { cls := .type "list", data := .seq its.toArray n } = { cls := .type "list", data := .seq its'.toArray n' }) (r : Vals ys its') (hz : ys.length ≤ sizeLine) (t : Nat) :
    Inv X pins σ (upd H p (.lst ys)) { s with heap := s.heap.update p f, toks := t } := by
  have e : (s.heap.update p f).get? p = some { cls := .type "list", data := .seq its'.toArray n' } := by
    rw [Heap.get?_update_self f ho (by rw [hf] <;> rfl), hf]
  refine I.write (x := p) (e := p) (by rw [h]; trivial) (.inl rfl) (fun b u hb q => (Heap.get?_update_other _ _ (Ne.symm hb)).trans q) ⟨_, e⟩ ?_
  exact ⟨hz, its', n', r, e⟩
def rSetL : V → V → V → Hp → (Hp → Prop) → Prop := fun o i v H Q => ∃ p xs k j, o = .ref p ∧ i = .int k ∧ H p = some (.lst xs) ∧ ixN xs.length k = some j ∧ Q (upd H p (.lst (xs.set j v)))
theorem set_list : PSet X rSetL := by
  intro pins s σ H o i v ov iv u Q I ro ri rv h
  obtain ⟨p, xs, k, j, rfl, rfl, hp, hj, q⟩ := h
  cases ro
  obtain ⟨t, rfl⟩ := ri
  obtain ⟨its, n, r, ho, hz⟩ := I.lst hp
  obtain ⟨h1, h2, h3, h4⟩ := ixN_seq hj
  have hl := r.length
  have hn := line63
  have I' : Inv X pins σ (upd H p (.lst (xs.set j v))) { s with heap := s.heap.update p (Obj.mapSeq (·.setIfInBounds j u)) } :=
    I.lstUpd hp ho (mapSeq_set its n j u) (r.set rv j) (by rw [List.length_set]; exact hz) s.toks
  by_cases h0 : 0 ≤ k
  · have hk : k.toNat = j := by
      rw [seqIndex_of h0 h4] at h1
      exact Option.some.inj h1
    exact PySem.W.ki_setAt ho h0 (by omega) (by rw [List.size_toArray, ← hl]; exact h4) (by rw [hk]; exact ⟨_, I', q⟩)
  · have hk : (k + (its.toArray.size : Int)).toNat = j := by
      rw [seqIndex_neg (by omega) h3] at h1
      rw [List.size_toArray, ← hl]
      exact Option.some.inj h1
    exact PySem.W.ki_setBack ho (by omega) (by rw [List.size_toArray, ← hl]; exact h3) (by omega) (by rw [hk]; exact ⟨_, I', q⟩)
theorem slice_bounds (lo hi : Option Int) (n : Nat) : (sliceBounds lo hi none n).1 = ((HT.sIx n 0 lo : Nat) : Int) ∧ (sliceBounds lo hi none n).2.1 = ((HT.sIx n n hi : Nat) : Int) ∧ (sliceBounds lo hi none n).2.2 = 1 := by
  refine ⟨?_, ?_, rfl⟩
  · cases lo with
    | none => simp [sliceBounds, HT.sIx]
    | some i =>
      simp only [sliceBounds, HT.sIx, Option.getD_none, show (1 : Int) > 0 by decide, if_true]
      by_cases h : i < 0
      · simp only [h, if_true] <;> omega
      · simp only [h, if_false] <;> omega
  · cases hi with
    | none => simp [sliceBounds, HT.sIx]
    | some i =>
      simp only [sliceBounds, HT.sIx, Option.getD_none, show (1 : Int) > 0 by decide, if_true]
      by_cases h : i < 0
      · simp only [h, if_true] <;> omega
      · simp only [h, if_false] <;> omega
theorem slicePick_cut (its : List Value) (lo hi : Option Int) : slicePick its.toArray lo hi none = ((its.drop (HT.sIx its.length 0 lo)).take (HT.sIx its.length its.length hi - HT.sIx its.length 0 lo)).toArray := by
  obtain ⟨h1, h2, h3⟩ := slice_bounds lo hi its.toArray.size
  unfold slicePick
  rw [h1, h2, h3]
  simp only [sliceRange_one, pick_run, List.size_toArray] <;> rfl
def rSlL (K : PySem.W.Frag) : V → Option Int → Option Int → Hp → VK → Prop := fun x lo hi H Q => ∃ a xs, x = .ref a ∧ SqL K H a xs ∧ ∀ p, H p = none → Q (.ref p) (upd H p (.lst (cutV xs lo hi)))
theorem sl_list : SlR X (rSlL X.K) := by
  intro pins s σ H x v vl vu lo hi sl Q I rx hs pl pu h
  obtain ⟨a, xs, rfl, hx, q⟩ := h
  cases rx
  obtain ⟨its, r, ht, hz⟩ := I.list hx
  have hlen := r.length
  refine ⟨"list", _, slot_list_getitem.lookup, ht.isList.typeIs, ?_⟩
  refine wpAny_getItem_list_slice ht.isList hs pl pu .none (by simp) ?_ (by rw [List.size_toArray] <;> omega)
  rw [slicePick_cut, ← hlen]
  refine ⟨.ref s.heap.objs.size, _, I.laid (t' := s.toks) (o := .lst (cutV xs lo hi)) (fun b ob q => Heap.get?_push_of_some _ q) (Nat.le_refl _) ?_, rfl, q _ (I.hok.fresh (Nat.le_refl _))⟩
  exact ⟨Nat.le_trans (cutV_length xs lo hi) hz, _, 0, (r.drop (HT.sIx xs.length 0 lo)).take (HT.sIx xs.length xs.length hi - HT.sIx xs.length 0 lo), Heap.get?_push_size _ rfl⟩
def flatV : V → Bool
  | .non => true
  | .bl _ => true
  | .int _ => true
  | .str _ => true
  | _ => false
def eqV : V → V → Bool
  | .non, .non => true
  | .bl a, .bl b => a == b
  | .bl a, .int b => (if a then 1 else 0) == b
  | .int a, .bl b => a == (if b then 1 else 0)
  | .int a, .int b => a == b
  | .str a, .str b => a == b
  | _, _ => false
theorem eqAt_V {A : Around} {s : Shared} {y x : V} {u v : Value} (ry : RelV y u) (rx : RelV x v) (fy : flatV y = true) (fx : flatV x = true) : SeqAt.EqAt A s u v (eqV y x) := by
  cases y with
  | non =>
    cases ry
    cases x with
    | non => cases rx; exact SeqAt.EqAt.same _
    | bl b => cases rx; exact SeqAt.EqAt.none_bool b
    | int b => obtain ⟨t, rfl⟩ := rx; exact SeqAt.EqAt.none_int b t
    | str b => obtain ⟨t, rfl⟩ := rx; exact SeqAt.EqAt.none_str b t
    | _ => exact absurd (show false = true from fx) Bool.false_ne_true
  | bl a =>
    cases ry
    cases x with
    | non => cases rx; exact SeqAt.EqAt.bool_none a
    | bl b => cases rx; exact SeqAt.EqAt.bool_bool a b
    | int b => obtain ⟨t, rfl⟩ := rx; exact SeqAt.EqAt.bool_int a b t
    | str b => obtain ⟨t, rfl⟩ := rx; exact SeqAt.EqAt.bool_str a b t
    | _ => exact absurd (show false = true from fx) Bool.false_ne_true
  | int a =>
    obtain ⟨t', rfl⟩ := ry
    cases x with
    | non => cases rx; exact SeqAt.EqAt.int_none a t'
    | bl b => cases rx; exact SeqAt.EqAt.int_bool a t' b
    | int b => obtain ⟨t, rfl⟩ := rx; exact SeqAt.EqAt.int_int a t' b t
    | str b => obtain ⟨t, rfl⟩ := rx; exact SeqAt.EqAt.int_str a t' b t
    | _ => exact absurd (show false = true from fx) Bool.false_ne_true
  | str a =>
    obtain ⟨t', rfl⟩ := ry
    cases x with
    | non => cases rx; exact SeqAt.EqAt.str_none a t'
    | bl b => cases rx; exact SeqAt.EqAt.str_bool a t' b
    | int b => obtain ⟨t, rfl⟩ := rx; exact SeqAt.EqAt.str_int a t' b t
    | str b => obtain ⟨t, rfl⟩ := rx; exact SeqAt.EqAt.str_str a t' b t
    | _ => exact absurd (show false = true from fx) Bool.false_ne_true
  | _ => exact absurd (show false = true from fy) Bool.false_ne_true
def eqU (x : V) (u : Value) : Bool := match u with
  | .none => eqV .non x
  | .bool b => eqV (.bl b) x
  | .int i _ => eqV (.int i) x
  | .str z _ => eqV (.str z) x
  | _ => false
theorem eqU_of {x y : V} {u : Value} (r : RelV y u) (f : flatV y = true) : eqU x u = eqV y x := by
  cases y with
  | non => cases r; rfl
  | bl b => cases r; rfl
  | int i => obtain ⟨t, rfl⟩ := r; rfl
  | str z => obtain ⟨t, rfl⟩ := r; rfl
  | _ => exact absurd (show false = true from f) Bool.false_ne_true
theorem any_eqU {x : V} : ∀ {xs : List V} {us : List Value}, Vals xs us → xs.all flatV = true → us.any (eqU x) = xs.any fun y => eqV y x
  | _, _, .nil, _ => rfl
  | y :: xs, u :: us, .cons r t, f => by
    rw [List.all_cons, Bool.and_eq_true] at f
    rw [List.any_cons, List.any_cons, eqU_of r f.1, any_eqU t f.2]
theorem mem_eqAt {A : Around} {s : Shared} {x : V} {v : Value} (rx : RelV x v) (fx : flatV x = true) : ∀ {xs : List V} {us : List Value}, Vals xs us → xs.all flatV = true → ∀ u ∈ us, SeqAt.EqAt A s u v (eqU x u)
  | _, _, .nil, _ => fun u hu => by cases hu
  | y :: xs, u :: us, .cons r t, f => fun u' hu => by
    rw [List.all_cons, Bool.and_eq_true] at f
    rcases List.mem_cons.mp hu with rfl | hu
    · rw [eqU_of r f.1]; exact eqAt_V r rx f.1 fx
    · exact mem_eqAt rx fx t f.2 u' hu
def inV (x : V) (xs : List V) : Bool := xs.any fun y => eqV y x
def rIn (K : PySem.W.Frag) (neg : Bool) : R2 := fun x y H Q => ∃ p xs, y = .ref p ∧ (SqL K H p xs ∨ SqT K H p xs) ∧ flatV x = true ∧ xs.all flatV = true ∧ Q (.bl (if neg then !inV x xs else inV x xs)) H
theorem op_in_seq : OpR X (compareOp .In) (rIn X.K false) := by
  intro pins s σ H x y v u Q I rx ry h
  obtain ⟨p, xs, rfl, hq, fx, fs, q⟩ := h
  cases ry
  rcases hq with hq | hq
  · obtain ⟨its, r, pl, hz⟩ := I.list hq
    refine SeqAt.in_listAt (eqU x) pl.isList (fun w hw => mem_eqAt rx fx r fs w (by simpa using hw)) ⟨.bl _, H, I, rfl, ?_⟩
    rw [show its.toArray.any (eqU x) = its.any (eqU x) by simp, any_eqU r fs]
    exact q
  · obtain ⟨its, r, pl, hz⟩ := I.tuple hq
    refine SeqAt.in_tupleAt (eqU x) pl (fun w hw => mem_eqAt rx fx r fs w (by simpa using hw)) ⟨.bl _, H, I, rfl, ?_⟩
    rw [show its.toArray.any (eqU x) = its.any (eqU x) by simp, any_eqU r fs]
    exact q
theorem call_len_seq : CallR X (.builtin "len") (fun xs H Q => ∃ p ys, xs = [.ref p] ∧ (SqL X.K H p ys ∨ SqT X.K H p ys) ∧ Q (.int ys.length) H) := by
  intro pins s σ H xs us Q I r h
  obtain ⟨p, ys, rfl, hq, q⟩ := h
  obtain ⟨u, rfl, rx⟩ := vals1 r
  cases rx
  have hn := line63
  rcases hq with hq | hq
  · obtain ⟨its, r', pl, hz⟩ := I.list hq
    have hlen := r'.length
    exact Calls.call_len_list pl.isList (by simp only [List.size_toArray] <;> omega) ⟨.int ys.length, H, I.tok _, ⟨s.toks + 1, by rw [List.size_toArray, hlen]⟩, q⟩
  · obtain ⟨its, r', pl, hz⟩ := I.tuple hq
    have hlen := r'.length
    exact len_tuple pl (by simp only [List.size_toArray] <;> omega) ⟨.int ys.length, H, I.tok _, ⟨s.toks + 1, by rw [List.size_toArray, hlen]⟩, q⟩
def tyV (K : PySem.W.Frag) (T : String) (x : V) (H : Hp) : Prop := match x with
  | .str _ => T = "str"
  | .int _ => T = "int"
  | .ref p => (T = "list" ∧ ∃ xs, SqL K H p xs) ∨ (T = "tuple" ∧ ∃ o, K.lookup p = some o ∧ o.cls = .type "tuple" ∧ o.dict = none) ∨
      (T = "dict" ∧ ((∃ kvs, H p = some (.dK kvs)) ∨ ∃ kvs, H p = some (.dT kvs))) ∨ (T = "set" ∧ ∃ S n, H p = some (.set S n))
  | _ => False
theorem tyV_is {pins : List (Addr × Obj)} {σ : St} {H : Hp} {s : Shared} {T : String} {x : V} {v : Value} (I : Inv X pins σ H s) (r : RelV x v) (ty : tyV X.K T x H) :
    s.TypeIs v T ∧ ∀ a, v = .ref a → ∃ ob, s.heap.get? a = some ob ∧ ob.dict = none := by
  cases x with
  | str z =>
    obtain ⟨t, rfl⟩ := r
    cases (show T = "str" from ty)
    exact ⟨typeIs_str s z t, fun _ e => nomatch e⟩
  | int i =>
    obtain ⟨t, rfl⟩ := r
    cases (show T = "int" from ty)
    exact ⟨typeIs_int s i t, fun _ e => nomatch e⟩
  | ref p =>
    cases r
    rcases ty with ⟨rfl, xs, hq⟩ | ⟨rfl, o, hk, hc, hd⟩ | ⟨rfl, hk⟩ | ⟨rfl, S, n, hk⟩
    · obtain ⟨its, _, pl, _⟩ := I.list hq
      refine ⟨pl.isList.typeIs, fun a e => ?_⟩
      cases e
      obtain ⟨o, n, e, c, hd, _⟩ := pl
      exact ⟨o, e, hd⟩
    · refine ⟨⟨o, I.kIn p o hk, hc⟩, fun a e => ?_⟩
      cases e
      exact ⟨o, I.kIn _ o hk, hd⟩
    · have z : ∃ o, s.heap.get? p = some o ∧ o.ExactDict := by
        rcases hk with ⟨kvs, hk⟩ | ⟨kvs, hk⟩
        · obtain ⟨_, _, _, _, o, _, _, e, ex, _⟩ := I.hok p _ hk
          exact ⟨o, e, ex⟩
        · obtain ⟨_, _, _, _, o, _, _, e, ex, _⟩ := I.hok p _ hk
          exact ⟨o, e, ex⟩
      obtain ⟨o, e, ex⟩ := z
      refine ⟨⟨o, e, ex.1⟩, fun a e2 => ?_⟩
      cases e2
      exact ⟨o, e, ex.2.1⟩
    · obtain ⟨o, _, _, _, e, ex, _⟩ := I.hok p _ hk
      refine ⟨⟨o, e, ex.1⟩, fun a e2 => ?_⟩
      cases e2
      exact ⟨o, e, ex.2.1⟩
  | _ => exact False.elim ty
def tBM0 (K : PySem.W.Frag) (T : String) (r : V → List V → Hp → VK → Prop) (to : TE) : TE := fun σ H Q => to σ H fun x H1 => tyV K T x H1 ∧ r x [] H1 Q
def tBM (K : PySem.W.Frag) (T : String) (r : V → List V → Hp → VK → Prop) (to : TE) (t : TA) : TE := fun σ H Q => to σ H fun x H1 => tyV K T x H1 ∧ t σ H1 fun xs H2 => r x xs H2 Q
variable {o e : Expr} {es : List Expr} {to : TE} {t : TA} {name : Str} {apos cpos : Pos} {T id : String} {r : V → List V → Hp → VK → Prop}
theorem pe_bm0 (pa : PlainAttrs T) (slot : Slot T name id) (hty : typeOf (.builtin id) = pure (.type "method_descriptor")) (hm : MtR X id r) (ho : PE X o to)
    (hbase : attributeBase o name X.env (eval o X.env) = eval o X.env := by rfl) (hline : (apos.endLine == cpos.line) = true := by rfl) : PE X (.Call (.Attribute o name apos) [] [] cpos) (tBM0 X.K T r to) := by
  intro pins s σ H Q I h
  refine wpAny_Call_method0_late hbase hline (thn (ho pins s σ H _ I h) fun v s1 ⟨x, H1, I1, r1, ty, q1⟩ => ?_)
  obtain ⟨h1, h2⟩ := tyV_is I1 r1 ty
  exact ⟨T, id, pa, slot, hty, h1, h2, Calls.callWith_builtin rfl (PySem.evalArgs_none (hm pins s1 σ H1 x [] v [] Q I1 r1 .nil q1))⟩
theorem pe_bm (pa : PlainAttrs T) (slot : Slot T name id) (hty : typeOf (.builtin id) = pure (.type "method_descriptor")) (hm : MtR X id r) (ho : PE X o to) (ha : PA X (e :: es) t)
    (hbase : attributeBase o name X.env (eval o X.env) = eval o X.env := by rfl)
    (hfew : ((backTo cpos (starEach (e :: es) X.env)).all (fun x => !x.1) && (backToKw cpos (keywordEach [] X.env)).all (fun x => x.1.isSome)
      && decide ((e :: es).length + ([] : List Keyword).length + (if ([] : List Keyword).isEmpty then 0 else 1) < 30)) = true := by rfl)
    (hline : (apos.endLine == cpos.line) = true := by rfl) (hs : starEach (e :: es) X.env = (false, eval e X.env) :: starEach es X.env := by rfl) (hplain : (backTo cpos (starEach es X.env)).any (·.1) = false := by rfl) :
    PE X (.Call (.Attribute o name apos) (e :: es) [] cpos) (tBM X.K T r to t) := by
  intro pins s σ H Q I h
  refine wpAny_Call_method_late hbase hfew hline rfl (thn (ho pins s σ H _ I h) fun v s1 ⟨x, H1, I1, r1, ty, q1⟩ => ?_)
  obtain ⟨h1, h2⟩ := tyV_is I1 r1 ty
  refine ⟨T, id, pa, slot, hty, h1, h2, ?_⟩
  have hA := ha cpos pins s1 σ H1 _ I1 q1
  rw [hs] at hA ⊢
  refine Calls.callWith_builtin (by show (false || (backTo cpos (starEach es X.env)).any (·.1)) = false; rw [hplain] <;> rfl) (Calls.evalArgs_plain ?_)
  exact thn hA fun us s2 ⟨vs, H2, I2, r2, q2⟩ => hm pins s2 σ H2 x vs v us Q I2 r1 r2 q2
end
end L2
namespace L2
open PySem PySem.Spec PyProof.Rows
def MtM (X : Cx) (id : String) (r : V → List V → Hp → VK → Prop) : Prop :=
  ∀ (pins : List (Addr × Obj)) (s : Shared) (σ : St) (H : Hp) (x : V) (xs : List V) (v : Value) (us : List Value) (Q : VK), Inv X pins σ H s → RelV x v → Vals xs us → r x xs H Q →
    wpAny (model X.prog X.w) X.A (call (.builtin id) (v :: us)) (EP X pins σ Q) X.xe s
theorem Vals.one : ∀ {x : V} {us : List Value}, Vals [x] us → ∃ u, us = [u] ∧ RelV x u
  | _, _, .cons r .nil => ⟨_, rfl, r⟩
theorem Vals.zero : ∀ {us : List Value}, Vals [] us → us = []
  | _, .nil => rfl
theorem Vals.dropLast {xs : List V} {us : List Value} (h : Vals xs us) : Vals xs.dropLast us.dropLast := by
  induction h with
  | nil => exact .nil
  | cons r t ih =>
    cases t with
    | nil => exact .nil
    | cons q t' => exact .cons r ih
theorem erase_last {α : Type} (l : List α) : l.eraseIdx (l.length - 1) = l.dropLast := by
  induction l with
  | nil => rfl
  | cons a r ih =>
    cases r with
    | nil => rfl
    | cons b r =>
      have e : (a :: b :: r).length - 1 = ((b :: r).length - 1) + 1 := by
        have h1 : (a :: b :: r).length = r.length + 2 := rfl
        have h2 : (b :: r).length = r.length + 1 := rfl
        omega
      rw [e, List.eraseIdx_cons_succ, ih]
      all_goals rfl
section
variable {X : Cx} {pins : List (Addr × Obj)} {σ : St} {H : Hp} {s : Shared} {l b : Addr} {xs ys zs : List V}
theorem Inv.lset {its its' : List Value} {n : Nat} {f : Array Value → Array Value} {t' : Nat} (I : Inv X pins σ H s) (hH : H l = some (.lst xs))
    (e : s.heap.get? l = some { cls := .type "list", data := .seq its.toArray n }) (hf : f its.toArray = its'.toArray) (hv : Vals ys its') (hz : ys.length ≤ sizeLine) :
    Inv X pins σ (upd H l (.lst ys)) { s with heap := s.heap.update l (Obj.mapSeq f), toks := t' } := by
  have q := PySem.IsL.update e f
  rw [hf] at q
  refine I.write (x := l) (e := l) (by rw [hH]; exact trivial) (.inl rfl) (fun b' u hb hu => (Heap.get?_update_other s.heap (Obj.mapSeq f) (Ne.symm hb)).trans hu) ⟨_, q⟩ ?_
  exact ⟨hz, its', _, hv, q⟩
theorem Inv.lnew {its : List Value} {t' : Nat} (I : Inv X pins σ H s) (hv : Vals ys its) (hz : ys.length ≤ sizeLine) :
    Inv X pins σ (upd H s.heap.objs.size (.lst ys)) { s with heap := s.heap.push { cls := .type "list", data := .seq its.toArray }, toks := t' } :=
  I.laid (fun _ _ q => Heap.get?_push_of_some _ q) (Nat.le_refl _) ⟨hz, its, 0, hv, Heap.get?_push_size _ rfl⟩
theorem Inv.fresh (I : Inv X pins σ H s) : H s.heap.objs.size = none := I.hok.fresh (Nat.le_refl _)
theorem Inv.lstM (I : Inv X pins σ H s) (hH : H l = some (.lst xs)) : xs.length ≤ sizeLine ∧ ∃ (its : List Value) (n : Nat), Vals xs its ∧ xs.length = its.length ∧ s.heap.get? l = some { cls := .type "list", data := .seq its.toArray n } := by
  obtain ⟨z, its, n, r, e⟩ := I.hok l _ hH
  exact ⟨z, its, n, r, r.length, e⟩
end
section
variable {X : Cx}
def rAppend : V → List V → Hp → VK → Prop := fun x vs H Q => ∃ l xs y, x = .ref l ∧ vs = [y] ∧ H l = some (.lst xs) ∧ xs.length < sizeLine ∧ Q .non (upd H l (.lst (xs ++ [y])))
theorem mt_append : MtM X "list.append" rAppend := by
  intro pins s σ H x vs v us Q I rx rv h
  obtain ⟨l, xs, y, rfl, rfl, hH, hz, q⟩ := h
  cases rx
  obtain ⟨u, rfl, ru⟩ := rv.one
  obtain ⟨z, its, n, r, hl, e⟩ := I.lstM hH
  refine call_meets F.slot_list_append ⟨_, e, rfl⟩ F.entry_list_append (F.args_list_append_2 _ _) (PySem.list_append l its.toArray n u (by rw [List.size_toArray]; omega)) ⟨e, ?_⟩
  refine ⟨.non, _, I.lset (its' := its ++ [u]) hH e (by simp) (r.append (.cons ru .nil)) ?_, rfl, q⟩
  rw [List.length_append, List.length_singleton]
  omega
def rPop : V → List V → Hp → VK → Prop := fun x vs H Q => ∃ l xs y, x = .ref l ∧ vs = [] ∧ H l = some (.lst xs) ∧ xs[xs.length - 1]? = some y ∧ Q y (upd H l (.lst xs.dropLast))
theorem mt_pop : MtM X "list.pop" rPop := by
  intro pins s σ H x vs v us Q I rx rv h
  obtain ⟨l, xs, y, rfl, rfl, hH, hy, q⟩ := h
  cases rx
  have hus := rv.zero
  subst hus
  obtain ⟨z, its, n, r, hl, e⟩ := I.lstM hH
  obtain ⟨u, hu, ru⟩ := r.get hy
  have hy' : its.toArray[its.toArray.size - 1]? = some u := by
    show its.toArray[its.length - 1]? = some u
    rw [← Array.getElem?_toList, ← hl]
    exact hu
  refine call_meets F.slot_list_pop ⟨_, e, rfl⟩ F.entry_list_pop (F.args_list_pop_1 _) (MeetsSeq.list_pop_last l its.toArray n u hy' (by rw [List.size_toArray]; omega)) ⟨e, ?_⟩
  refine ⟨y, _, I.lset (its' := its.dropLast) hH e ?_ r.dropLast ?_, ru, q⟩
  · show its.toArray.eraseIdxIfInBounds (its.toArray.size - 1) = its.dropLast.toArray
    rw [List.size_toArray, List.eraseIdxIfInBounds_toArray, erase_last]
  · rw [List.length_dropLast]
    omega
def rCat : R2 := fun x y H Q => ∃ l b xs zs, x = .ref l ∧ y = .ref b ∧ H l = some (.lst xs) ∧ H b = some (.lst zs) ∧ xs.length + zs.length ≤ sizeLine ∧ ∀ p, H p = none → Q (.ref p) (upd H p (.lst (xs ++ zs)))
theorem op_cat : OpR X (binaryOp .Add) rCat := by
  intro pins s σ H x y v u Q I rx ry h
  obtain ⟨l, b, xs, zs, rfl, rfl, hH, hB, hz, q⟩ := h
  cases rx
  cases ry
  obtain ⟨z, its, n, r, hl, e⟩ := I.lstM hH
  obtain ⟨z2, its2, n2, r2, hl2, e2⟩ := I.lstM hB
  refine PySem.P.add_list e e2 ?_ (by rw [List.size_toArray, List.size_toArray]; omega)
  have ea : its.toArray ++ its2.toArray = (its ++ its2).toArray := by simp
  rw [ea]
  exact ⟨.ref _, _, I.lnew (t' := s.toks) (r.append r2) (by rw [List.length_append]; omega), rfl, q _ I.fresh⟩
end
section
variable {prog : Program} {w : World} {A : Around} {E : Value → Shared → Prop} {s : Shared}
end
section
variable {X : Cx}
end
end L2
namespace Att
open PySem PySem.W PySem.Calls PyProof.Rows
theorem ints_of_wellAll {P : Params} {h : Heap} : ∀ (ns : List Int) (vs : List Value), WellAll P h vs (ns.map WData.int) → IntsAre vs ns := by
  intro ns
  induction ns with
  | nil =>
    intro vs w
    rw [List.map_nil] at w
    cases w
    exact .nil
  | cons n ns ih =>
    intro vs w
    rw [List.map_cons] at w
    cases w with
    | cons a b =>
      cases a
      exact .cons _ _ (ih _ b)
theorem script_of {l : OpenLaw} {n : Nat} (hn : l.most = some n) {P : Params} {h : Heap} {args : List WData} {vals : List Value}
    (hpre : l.row.toRowW.claim.pre args = true) (hwl : WellAll P h vals args) :
    ∃ a vs ns, vals = [Value.ref a] ∧ args = [WData.list (ns.map WData.int)] ∧ h.get? a = some { cls := .type "list", data := .seq vs.toArray } ∧ IntsAre vs ns ∧ ns.length ≤ n := by
  have hsh : WShape.hasAll [] args [.list .int] = true := (pre_splitW hpre).1
  have hc : l.pre.holds [] { args := args } = true := (pre_splitW hpre).2
  obtain ⟨d, r, rfl, h1, h2⟩ := hasAllW_cons hsh
  obtain rfl := hasAllW_nil h2
  obtain ⟨xs, rfl, h3⟩ := hasW_list h1
  obtain ⟨ns, rfl⟩ := items_int h3
  have hlen : ns.length ≤ n := by
    unfold OpenLaw.pre at hc
    have h4 : (WTm.not (.lt (.lit (.int (n : Int))) (.len (.arg 0)))).holds [] { args := [.list (ns.map .int)] } = true := by
      have h4 := (holds_andW hc).1
      rw [hn] at h4
      exact h4
    have h5 := condW_of h4 (w_not (w_lt w_lit (w_len_list (w_arg rfl))))
    rw [List.length_map] at h5
    refine Nat.le_of_not_lt fun q => ?_
    have q' : (n : Int) < ((ns.length : Nat) : Int) := by omega
    first
      | (rw [decide_eq_true q'] at h5; exact absurd h5 (by decide))
      | (simp at h5; omega)
  cases hwl with
  | cons w1 w2 =>
    cases w2
    cases w1 with
    | list ho hall => exact ⟨_, _, ns, rfl, rfl, ho, ints_of_wellAll ns _ hall, hlen⟩
theorem post_true (l : OpenLaw) (args : List WData) : l.row.toRowW.claim.post args (.bool true) args = true :=
  postW_of (r := l.row.toRowW) (X := (true == true))
    (show WShape.has [] (.bool true) .bool = true by first | rfl | decide | simp [WShape.has, WShape.arms, WShape.armsAll])
    (show (WTm.eq .res (.lit (.bool true))).value [] { args := args, res := some (.bool true), after := args } = some (.bool (true == true)) from w_eq_bool (w_res rfl) w_lit) rfl
theorem attach_call {l : OpenLaw} {n : Nat} {q : Program} {loose : List Str} {XP : (Str → Option Value) → Heap → Prop} {YP : World → Heap → Prop} {d : DefRec}
    (hn : l.most = some n) (hdf : d.params.defaults = [])
    (call : ∀ (w : World) (s₀ s₁ : Shared) (mg mb : Str → Option Value) (fa : Addr) (o : Obj) (pm cd doc : Value) (a : Addr) (vs : List Value) (ns : List Int),
      Ground q loose [] XP w s₀ mg mb s₁.heap → YP w s₁.heap →
      s₁.heap.get? fa = some o → o.data = .func (docDef d.name d.params d.body d.scope pm cd doc) → s₁.heap.CodeRec cd d.name → mg d.name = some (.ref fa) →
      s₁.heap.get? a = some { cls := .type "list", data := .seq vs.toArray } → IntsAre vs ns → ns.length ≤ n → s₁.gens = #[] →
      codeAny (model l.prog w) callerA (.call (.ref fa) ⟨[.ref a], []⟩) (fun r s' => r = .ok (.ret (.bool true)) ∧ OldK s₁.heap s'.heap ∧ s'.os = s₁.os ∧ AllBare s'.gens) s₁) :
    WalkO q loose XP YP l.row.toRowW d [] (fun f vs => PySem.call f vs) := by
  intro w s₀ s₁ mg mb G Y fa o pm cd doc dV kV ho hd hcd hD hmg hg args vals as hpre hlay hrd hwl hlo
  obtain rfl : dV = .none := Dflts.none hD hdf
  obtain rfl : kV = .none := Dflts.noKw hD
  obtain ⟨a, vs, ns, rfl, rfl, hobj, hints, hlen⟩ := script_of hn hpre hwl
  refine enter_call (codeAny_mono (call w s₀ s₁ mg mb fa o pm cd doc a vs ns G Y ho (fd_plain hd) hcd hmg hobj hints hlen hg) fun r s' hq => ?_)
  obtain ⟨rfl, h2, h3, h4⟩ := hq
  exact ⟨.inl ⟨.bool true, .bool true, [], rfl, fun _ => rfl, .bool true, post_true l _, fun _ => ⟨List.Pairwise.nil, fun _ hm => (nomatch hm)⟩⟩, h2, h3, h4⟩
section
variable {prog : Program} {w : World} {A : Around} {E : Value → Shared → Prop} {s : Shared} {K : Frag}
end
end Att
namespace L2
open PySem PySem.Spec PyProof.Rows
theorem vals_ints : ∀ {vs : List Value} {ns : List Int}, IntsAre vs ns → Vals (ns.map V.int) vs
  | _, _, .nil => .nil
  | _, _, .cons n t h => .cons ⟨t, rfl⟩ (vals_ints h)
def Only (H : Hp) : Prop := ∀ b, H b = none ∨ ∃ o xs, H b = some (.frz o (.lst xs))
theorem law_call {P : Program} {w : World} {K : PySem.W.Frag} {mg mb : Str → Option Value} {CX : CXT} {k : Nat} {fa a : Addr} {fd : FuncData} {x : Str} {sp : Sp} {s₁ : Shared} {vs : List Value} {ns : List Int}
    (KX : K.In s₁.heap) (hns : s₁.heap.Ns mainGlobals mg) (hb : s₁.heap.Ns builtinsNs mb) (hbb : ∀ x : Str, x ≠ "__name__" → mb x = bootBuiltins x) (hlim : s₁.heap.NoLimit) (hsm : ∃ mm, s₁.heap.Ns sysModules mm) (hg : s₁.gens = #[])
    (ha : s₁.heap.get? a = some { cls := .type "list", data := .seq vs.toArray }) (hi : IntsAre vs ns) (hl : ns.length ≤ sizeLine) (hr : Room k callerA)
    (F : ∀ base : Heap, K.In base → base.Ns mainGlobals mg → FnOk P w K mg base CX k fa fd [x] sp) (hbind : ∀ (s : Shared) (u : Value), BindsTo s fd ⟨[u], []⟩ [(x, u)])
    (hsp : ∀ H : Hp, Only H → SqL K H a (ns.map V.int) → sp [.ref a] H (fun v _ => v = .bl true) fun _ _ _ => False)
    (hCX : ∀ H e s', CX [] H s₁ (fun _ _ _ => False) e s' → False) :
    codeAny (model P w) callerA (.call (.ref fa) ⟨[.ref a], []⟩) (fun r s' => r = .ok (.ret (.bool true)) ∧ OldK s₁.heap s'.heap ∧ s'.os = s₁.os ∧ AllBare s'.gens) s₁ := by
  have rv := vals_ints hi
  have lenV := hi.length
  have core : ∀ H : Hp, Only H → SqL K H a (ns.map V.int) → HOk P w H s₁.heap → (∀ b, H b ≠ none → b = a) → (H a ≠ none → K.lookup a = none) →
      codeAny (model P w) callerA (.call (.ref fa) ⟨[.ref a], []⟩) (fun r s' => r = .ok (.ret (.bool true)) ∧ OldK s₁.heap s'.heap ∧ s'.os = s₁.os ∧ AllBare s'.gens) s₁ := by
    intro H hO hS hok hA hK
    have base_of : ∀ {b : Addr} {o : Obj}, s₁.heap.get? b = some o → H b = none → (hidT s₁.heap H).get? b = some o := fun e n => hidT_get e n
    have noA : ∀ {b : Addr} {o : Obj} {es : Array DictEntry} {ep : Nat}, s₁.heap.get? b = some o → o.data = .dict es ep → H b = none := fun {b o es ep} e d => by
      cases q : H b with
      | none => rfl
      | some u =>
        have e' : b = a := hA b (by rw [q]; simp)
        subst e'
        rw [ha] at e; cases e
        have d' : Data.seq vs.toArray _ = Data.dict es ep := d
        cases d'
    have nsK : ∀ {b : Addr} {m : Str → Option Value}, s₁.heap.Ns b m → (hidT s₁.heap H).Ns b m := fun {b m} ⟨o, es, ep, e, d, r⟩ => ⟨o, es, ep, base_of e (noA e d), d, r⟩
    have hKb : K.In (hidT s₁.heap H) := fun b o e => base_of (KX b o e) (by
      cases q : H b with
      | none => rfl
      | some u =>
        have e' : b = a := hA b (by rw [q]; simp)
        subst e'
        rw [hK (by rw [q]; simp)] at e; cases e)
    have hM : Mod K mg (hidT s₁.heap H) := ⟨hKb, nsK hns, ⟨mb, nsK hb, hbb⟩, let ⟨mc, h1, h2⟩ := hlim; ⟨mc, nsK h1, h2⟩, let ⟨mm, h1⟩ := hsm; ⟨mm, nsK h1⟩⟩
    have e0 : Env0 P w K mg (hidT s₁.heap H) callerA [] s₁ H := ⟨rfl, hM, fun b o e => of_hidT e, Nat.le_of_eq (hidT_size _ _), trivial, fun b hb => absurd (show b ∈ ([] : List Addr) from hb) (by simp), hok, .of_eq hg⟩
    refine codeAny_mono ((F _ hKb (nsK hns)).run callerA [] s₁ H ⟨[.ref a], []⟩ [.ref a] [.ref a] _ _ hr e0 (hbind s₁ (.ref a)) (.cons rfl .nil) (hsp H hO hS)) fun r s' h => ?_
    cases r with
    | error e => exact (hCX H e s' h).elim
    | ok fl =>
      cases fl with
      | next => exact False.elim h
      | brk => exact False.elim h
      | cont => exact False.elim h
      | ret u =>
        obtain ⟨v, H', os, bare, un, hok', r', q⟩ := h
        have q' : v = .bl true := q
        subst q'
        obtain rfl : u = Value.bool true := r'
        refine ⟨rfl, OldK.of_keep fun b o e => ?_, os, bare⟩
        cases q : H b with
        | none => exact un.keep b o e q (by intro z; exact absurd (show b ∈ ([] : List Addr) from z) (by simp)) (by simp)
        | some u =>
          rcases hO b with z | ⟨ob, xs, z⟩
          · rw [q] at z; cases z
          · have z2 := un.frzs b ob _ z
            obtain ⟨e1, _⟩ := hok b _ z
            obtain ⟨e2, _⟩ := hok' b _ z2
            rw [e] at e1; cases e1
            exact e2
  cases hk : K.lookup a with
  | some o =>
    have e := KX a o hk
    rw [ha] at e
    cases e
    refine core (fun _ => none) (fun _ => .inl rfl) (.inr ⟨_, vs.toArray, _, hk, rfl, rfl, rfl, by rw [List.size_toArray, lenV]; exact hl, by simpa using rv⟩) (fun b u z => by have z' : (none : Option HO) = some u := z; cases z') (fun b z => absurd rfl z) fun z => absurd rfl z
  | none =>
    refine core (fun b => if b = a then some (.frz { cls := .type "list", data := .seq vs.toArray } (.lst (ns.map V.int))) else none) (fun b => ?_) (.inl (.inr ⟨{ cls := .type "list", data := .seq vs.toArray }, if_pos rfl⟩)) (fun b u z => ?_) (fun b z => ?_) fun _ => hk
    · by_cases hb : b = a
      · exact .inr ⟨_, _, if_pos hb⟩
      · exact .inl (if_neg hb)
    · by_cases hb : b = a
      · have z' := (if_pos hb).symm.trans z
        cases z'
        subst hb
        exact ⟨ha, by rw [List.length_map]; exact hl, vs, _, rv, ha⟩
      · have z' := (if_neg hb).symm.trans z
        cases z'
    · by_cases hb : b = a
      · exact hb
      · exact absurd (if_neg hb) z
end L2
namespace L2
open PySem PySem.Spec PyProof.Rows
theorem walk_of {l : PySem.W.OpenLaw} {n k : Nat} {q : Program} {loose : List Str} {XP : (Str → Option Value) → Heap → Prop} {YP : World → Heap → Prop} {d : DefRec} {K : Params → PySem.W.Frag} {CX : World → CXT} {sp : World → Sp} {x : Str}
    (hn : l.most = some n) (hn2 : n ≤ sizeLine) (hdf : d.params.defaults = []) (hr : Room k callerA) (hi : PyProof.Rows.importsNone q = true)
    (hY : ∀ (w : World) (h : Heap), YP w h → (K w.params).In h)
    (F : ∀ (w : World) (mg : Str → Option Value) (fa : Addr) (h : Heap), (K w.params).In h → h.Ns mainGlobals mg → mg d.name = some (.ref fa) →
      ∃ fd : FuncData, (∀ (s : Shared) (u : Value), BindsTo s fd ⟨[u], []⟩ [(x, u)]) ∧
        ∀ base : Heap, (K w.params).In base → base.Ns mainGlobals mg → FnOk l.prog w (K w.params) mg base (CX w) k fa fd [x] (sp w))
    (hsp : ∀ (w : World) (H : Hp) (a : Addr) (ns : List Int), ns.length ≤ n → Only H → SqL (K w.params) H a (ns.map V.int) → sp w [.ref a] H (fun v _ => v = .bl true) fun _ _ _ => False)
    (hCX : ∀ (w : World) (H : Hp) (s : Shared) (e : Value) (s' : Shared), CX w [] H s (fun _ _ _ => False) e s' → False) :
    PySem.W.WalkO q loose XP YP l.row.toRowW d [] (fun f vs => PySem.call f vs) := by
  refine Att.attach_call hn hdf fun w s₀ s₁ mg mb fa o pm cd doc a vs ns G Y ho hd hcd hmg hobj hints hlen hg => ?_
  have KX := hY w _ Y
  obtain ⟨fd, hb, hF⟩ := F w mg fa _ KX G.T.g hmg
  exact law_call KX G.T.g G.T.b G.T.builtins G.T.nolimit (let ⟨mm, h1, _⟩ := (G.T.seer hi).mods; ⟨mm, h1⟩) hg hobj hints (Nat.le_trans hlen hn2) hr hF hb (fun H hO hS => hsp w H a ns hlen hO hS) fun H e s' => hCX w H s₁ e s'
end L2
namespace L2
open PySem PySem.Spec PyProof.Rows
def defArgs (s : Stmt) : Arguments := match s with
  | .FunctionDef _ a _ _ _ _ _ _ _ _ => a
  | _ => { posonlyargs := [], args := [], vararg := none, kwonlyargs := [], kw_defaults := [], kwarg := none, defaults := [] }
def defBody (s : Stmt) : List Stmt := match s with
  | .FunctionDef _ _ b _ _ _ _ _ _ _ => b
  | _ => []
def defScope (s : Stmt) : Scope := match s with
  | .FunctionDef _ _ _ _ _ _ sc _ _ _ => sc
  | _ => { kind := .function, names := [], isGenerator := false, isCoroutine := false }
abbrev CX0 : CXT := fun _ _ _ _ _ _ => False
abbrev E0 : XK := fun _ _ _ => False
theorem pass0 {X : Cx} : Passes CX0 X E0 := fun _ _ _ _ _ _ _ h => h.elim
structure Fun (K : PySem.W.Frag) (x qual : Str) (st : Stmt) (f : Addr) (fd : FuncData) : Prop where
  ex : ∃ (oc : Value) (od : Option Addr) (kV doc pm : Value) (an : Option Addr) (cdv ct : Value) (osl : Array (Option Value)),
    fd = PySem.W.fnOf x qual (defArgs st) (defBody st) (defScope st) .none kV doc pm an cdv ct ∧ K.lookup f = some ⟨oc, od, .func fd, osl⟩ ∧ PySem.W.codeIn K cdv qual = true
  kp : PySem.W.keepIn K (.ref f) = true
section
variable {P : Program} {w : World} {K : PySem.W.Frag} {mg : Str → Option Value} {base : Heap}
theorem Fun.ok {x qual : Str} {st : Stmt} {f : Addr} {fd : FuncData} {N ps : List Str} {k : Nat} {sp : Sp} (F : Fun K x qual st f fd) (S : FnScope N ps (defScope st)) (len : ∀ vs H Q E, sp vs H Q E → vs.length = ps.length)
    (hbody : ∀ (cdv : Value) (A : Around) (outer : List Env) (s : Shared) (H : Hp) (vs : List V) (Q : VK) (E : XK), Room k (A.deeper (envOfC qual (defScope st) s.heap.objs.size f cdv)) → sp vs H Q E →
      ∃ t, PSs (cxOf CX0 P w K mg base N qual (defScope st) f cdv A outer s H E).nox (defBody st) t ∧ t { nx := fun _ H' => Q .non H', rt := Q } (start N vs) H) : FnOk P w K mg base CX0 (k + 1) f fd ps sp := by
  obtain ⟨oc, od, kV, doc, pm, an, cdv, ct, osl, rfl, lk, hcd⟩ := F.ex
  refine fn_of lk hcd S len fun A outer s H vs Q E hr hsp => ?_
  obtain ⟨t, h, q⟩ := hbody cdv A outer s H vs Q E hr hsp
  exact ⟨t, h.nox, q⟩
theorem Fun.binds {x qual : Str} {st : Stmt} {f : Addr} {fd : FuncData} {ps : List Str} (F : Fun K x qual st f fd)
    (h : ∀ (kV doc pm : Value) (an : Option Addr) (cdv ct : Value) (us : List Value), us.length = ps.length → bindArgs (PySem.W.fnOf x qual (defArgs st) (defBody st) (defScope st) .none kV doc pm an cdv ct) ⟨us, []⟩ = pure (ps.zip us)) : Binds K fd ps [] := by
  obtain ⟨oc, od, kV, doc, pm, an, cdv, ct, osl, rfl, lk, hcd⟩ := F.ex
  exact .all (h kV doc pm an cdv ct)
theorem fun_mk {x qual : Str} {st : Stmt} {f : Addr} {oc : Value} {od an : Option Addr} {osl : Array (Option Value)} {kV doc pm cdv ct : Value} (l : K.lookup f = some ⟨oc, od, .func (PySem.W.fnOf x qual (defArgs st) (defBody st) (defScope st) .none kV doc pm an cdv ct), osl⟩)
    (c : PySem.W.codeIn K cdv qual = true) (k : PySem.W.keepIn K (.ref f) = true) : Fun K x qual st f (PySem.W.fnOf x qual (defArgs st) (defBody st) (defScope st) .none kV doc pm an cdv ct) := ⟨⟨oc, od, kV, doc, pm, an, cdv, ct, osl, rfl, l, c⟩, k⟩
end
theorem small1000 {n : Nat} (h : n ≤ 1000) : n < sizeLine := Nat.lt_of_le_of_lt h (by decide)
section
variable {X : Cx}
theorem pv (i : Nat) {x : Str} {pos : Pos} (hN : X.N[i]? = some x := by rfl) (hv : Vis X.env.scope x := by first | exact Or.inl rfl | exact Or.inr (Or.inl rfl) | exact Or.inr (Or.inr rfl)) (hd : (x == ("__debug__" : Str)) = false := by decide)
    (hcd : (x == ("__classdict__" : Str)) = false := by decide) : PE X (.Name x pos) (tVar i) := pe_var hN hv hd hcd
end
theorem iteF {A B : Prop} (h : B) : if false = true then A else B := by
  rw [if_neg Bool.false_ne_true]
  exact h
theorem iteT {A B : Prop} (h : A) : if true = true then A else B := by
  rw [if_pos rfl]
  exact h
theorem ite2 {c A B : Prop} [Decidable c] (h1 : c → A) (h2 : ¬ c → B) : if c then A else B := by
  by_cases h : c
  · rw [if_pos h]
    exact h1 h
  · rw [if_neg h]
    exact h2 h
def Same (H H' : Hp) : Prop := ∀ b o, H b = some o → H' b = some o
theorem Same.refl (H : Hp) : Same H H := fun _ _ h => h
theorem Same.trans {H H1 H2 : Hp} (a : Same H H1) (b : Same H1 H2) : Same H H2 := fun c o h => b c o (a c o h)
theorem Same.free {H H' : Hp} (e : Same H H') {l : Addr} (h : H' l = Option.none) : H l = Option.none := by
  cases q : H l with
  | none => rfl
  | some o =>
    rw [e l o q] at h
    cases h
theorem Same.seq {K : PySem.W.Frag} {H H' : Hp} {a : Addr} {xs : List V} (e : Same H H') (h : SqL K H a xs) : SqL K H' a xs := by
  rcases h with (h | ⟨o, h⟩) | h
  · exact .inl (.inl (e _ _ h))
  · exact .inl (.inr ⟨o, e _ _ h⟩)
  · exact .inr h
end L2
set_option Elab.async false
set_option linter.all false
set_option maxRecDepth 100000
namespace L2
open PySem PySem.Spec PyProof.Rows
section
variable {κ : Type} [DecidableEq κ]
def valV (kvs : List (κ × V)) (k : κ) : Option V := (kvs.find? fun kv => decide (kv.1 = k)).map (·.2)
end
section
variable {P : Program} {w : World} {H : Hp} {h : Heap} {a : Addr}
theorem rd_of {u : HO} (ok : HOk P w H h) (e : Rd H a u) : ObjOk P w H h a u := e.ok ok
theorem dk_rd {kvs : List (Key × V)} (ok : HOk P w H h) (e : Rd H a (.dK kvs)) : kvs.length ≤ sizeLine ∧ (a == sysModules) = false ∧ ∃ vs, KV kvs vs ∧ h.DictOf (mixKind P w) a vs :=
  show ObjOk P w H h a (.dK kvs) from rd_of ok e
theorem dk_of {kvs : List (Key × V)} (ok : HOk P w H h) (e : H a = some (.dK kvs)) : kvs.length ≤ sizeLine ∧ (a == sysModules) = false ∧ ∃ vs, KV kvs vs ∧ h.DictOf (mixKind P w) a vs := dk_rd ok (.inl e)
end
section
variable {X : Cx} {pins : List (Addr × Obj)} {σ : St} {H : Hp} {s : Shared} {a : Addr} {y v : V} {u r : Value} {o : Option V} {A : Around} {E : Value → Shared → Prop}
end
section
variable {X : Cx} {pins : List (Addr × Obj)} {σ : St} {H : Hp} {s : Shared} {a : Addr} {kvs : List (Key × V)} {k : Key} {u : Value} {A : Around} {E : Value → Shared → Prop}
end
section
variable {X : Cx} {o i e value : Expr} {pos pos' tpos : Pos} {td ty tv : TE}
end
section
variable {X : Cx} {pos : Pos}
end
structure M1 (X : Cx) (o : Expr) (m : Str) (apos : Pos) (e : Expr) (cpos : Pos) : Prop where
  base : attributeBase o m X.env (eval o X.env) = eval o X.env
  few : ((backTo cpos (starEach [e] X.env)).all (fun x => !x.1) && (backToKw cpos (keywordEach [] X.env)).all (fun x => x.1.isSome)
    && decide (([e] : List Expr).length + ([] : List Keyword).length + (if ([] : List Keyword).isEmpty then 0 else 1) < 30)) = true
  line : (apos.endLine == cpos.line) = true
  trees : backTo cpos (starEach [e] X.env) = [(false, eval e X.env)]
structure M2 (X : Cx) (o : Expr) (m : Str) (apos : Pos) (e f : Expr) (cpos : Pos) : Prop where
  base : attributeBase o m X.env (eval o X.env) = eval o X.env
  few : ((backTo cpos (starEach [e, f] X.env)).all (fun x => !x.1) && (backToKw cpos (keywordEach [] X.env)).all (fun x => x.1.isSome)
    && decide (([e, f] : List Expr).length + ([] : List Keyword).length + (if ([] : List Keyword).isEmpty then 0 else 1) < 30)) = true
  line : (apos.endLine == cpos.line) = true
  trees : backTo cpos (starEach [e, f] X.env) = [(false, eval e X.env), (false, eval f X.env)]
section
variable {X : Cx} {pins : List (Addr × Obj)} {σ : St} {H : Hp} {s : Shared} {a : Addr} {y d : V} {u r : Value} {o : Option V} {A : Around} {E : Value → Shared → Prop}
end
section
variable {X : Cx} {o e f : Expr} {apos cpos : Pos} {td ty tx : TE}
end
section
variable {X : Cx} {pins : List (Addr × Obj)} {σ : St} {H : Hp} {s : Shared} {a : Addr} {kvs : List (Key × V)} {A : Around} {E : Value → Shared → Prop}
end
section
variable {X : Cx} {pins : List (Addr × Obj)} {σ : St} {H : Hp} {s : Shared} {a : Addr} {y : V} {u : Value} {A : Around} {E : Value → Shared → Prop}
end
end L2
namespace L2
open PySem PySem.Spec PyProof.Rows
section
variable {X : Cx}
end
section
variable {κ : Type} [DecidableEq κ]
end
end L2
set_option Elab.async false
set_option linter.all false
set_option maxRecDepth 100000
set_option maxHeartbeats 4000000
namespace L2
open PySem PySem.Spec PyProof.Rows
theorem Inv.adopt {X : Cx} {pins : List (Addr × Obj)} {σ : St} {H : Hp} {s : Shared} {a : Addr} {o : HO} (I : Inv X pins σ H s) (hn : H a = none) (hs : X.s₀.heap.objs.size ≤ a) (hL : a ≠ X.env.locals) (hC : ∀ x c, X.env.cells.lookup x = some c → c ≠ a) (hp : ∀ p ∈ X.pn ++ pins, p.1 ≠ a)
    (new : ObjOk X.prog X.w (upd H a o) s.heap a o) : Inv X pins σ (upd H a o) s := by
  have ne : ∀ b u, X.s₀.heap.get? b = some u → b ≠ a := fun b u e => Nat.ne_of_lt (Nat.lt_of_lt_of_le (Heap.lt_size e) hs)
  refine ⟨I.ok, I.os, I.bare, ⟨I.base.keep, I.base.slot, fun b u e n hx => ?_, I.base.there, fun b xs e => ?_, fun b u xs e => ?_, fun b ps e => ?_⟩, I.loc, I.cell, ?_, fun x c e => ?_, fun p hq => ?_, fun b u e => ?_, I.len⟩
  · rw [upd_ne (ne b u e)]; exact I.base.free b u e n hx
  · have q := I.base.tups b xs e
    rw [upd_ne (ne_of_none q hn)]; exact q
  · have q := I.base.frzs b u xs e
    rw [upd_ne (ne_of_none q hn)]; exact q
  · obtain ⟨m, q⟩ := I.base.tbls b ps e
    exact ⟨m, by rw [upd_ne (ne_of_none q hn)]; exact q⟩
  · rw [upd_ne (Ne.symm hL)]; exact I.free
  · rw [upd_ne (hC x c e)]; exact I.freeC x c e
  · obtain ⟨h1, h2, h3⟩ := I.pin p hq
    exact ⟨h1, by rw [upd_ne (hp p hq)]; exact h2, h3⟩
  · by_cases hb : b = a
    · subst hb; rw [upd_same] at e; cases e; exact new
    · rw [upd_ne hb] at e
      exact (I.hok b u e).stay (fun c v _ q => q) (fun c q => by rw [upd_ne (ne_of_none q hn)]; exact q) fun c xs q => by rw [upd_ne (ne_of_none q hn)]; exact q
def CellsIn (E : Env) : List (Str × Addr) → Prop
  | [] => True
  | p :: r => E.cells.lookup p.1 = some p.2 ∧ CellsIn E r
theorem CellsIn.get {E : Env} : ∀ {cl : List (Str × Addr)} {x : Str} {c : Addr}, CellsIn E cl → cl.lookup x = some c → E.cells.lookup x = some c := by
  intro cl x c h e
  have hm := PySem.mem_of_lookup e
  clear e
  induction cl with
  | nil => exact nomatch hm
  | cons p r ih =>
    rcases List.mem_cons.mp hm with q | q
    · have := h.1
      rw [← q] at this
      exact this
    · exact ih h.2 q
def CapOk (XE : Env) (sc : Scope) (XN : List Str) : List Str → List (Option Nat) → Prop
  | [], [] => True
  | _ :: n, none :: c => CapOk XE sc XN n c
  | x :: n, some i :: c => (XN[i]? = some x ∧ (XE.kindOf x = some .cell ∨ XE.kindOf x = some .free) ∧ (sc.names.lookup x = some .cell ∨ sc.names.lookup x = some .free)) ∧ CapOk XE sc XN n c
  | _, _ => False
def capV (σ : St) (o : Option Nat) : Option V := match o with
  | none => none
  | some i => (σ[i]?).join
def capSt (cap : List (Option Nat)) (σ : St) : St := cap.map (capV σ)
theorem CapOk.len {XE : Env} {sc : Scope} {XN : List Str} : ∀ {n : List Str} {c : List (Option Nat)}, CapOk XE sc XN n c → c.length = n.length
  | [], [], _ => rfl
  | _ :: _, none :: _, h => congrArg (· + 1) (CapOk.len (n := _) (c := _) h)
  | _ :: _, some _ :: _, h => congrArg (· + 1) (CapOk.len h.2)
  | [], _ :: _, h => (show False from h).elim
  | _ :: _, [], h => (show False from h).elim
theorem CapOk.get {XE : Env} {sc : Scope} {XN : List Str} {σ : St} : ∀ {n : List Str} {c : List (Option Nat)} {j : Nat} {x : Str} {v : V}, CapOk XE sc XN n c → n[j]? = some x → (capSt c σ)[j]? = some (some v) →
    ∃ i : Nat, XN[i]? = some x ∧ σ[i]? = some (some v) ∧ (XE.kindOf x = some .cell ∨ XE.kindOf x = some .free) ∧ (sc.names.lookup x = some .cell ∨ sc.names.lookup x = some .free)
  | [], [], _, _, _, _, h, _ => by simp at h
  | y :: n, none :: c, 0, x, v, _, _, e => by simp [capSt, capV] at e
  | y :: n, none :: c, j + 1, x, v, h, h1, e => CapOk.get (n := n) (c := c) (j := j) h (by simpa using h1) (by simpa [capSt] using e)
  | y :: n, some i :: c, 0, x, v, h, h1, e => by
    simp at h1; subst h1
    refine ⟨i, h.1.1, ?_, h.1.2⟩
    simp only [capSt, capV, List.map_cons, List.getElem?_cons_zero] at e
    cases q : σ[i]? with
    | none => rw [q] at e; simp at e
    | some w => rw [q] at e; simp at e; rw [e]
  | y :: n, some i :: c, j + 1, x, v, h, h1, e => CapOk.get (n := n) (c := c) (j := j) h.2 (by simpa using h1) (by simpa [capSt] using e)
  | [], _ :: _, _, _, _, h, _, _ => (show False from h).elim
  | _ :: _, [], _, _, _, h, _, _ => (show False from h).elim
def cxComp (X : Cx) (scope : Scope) (cl : List (Str × Addr)) (NY : List Str) (fp : List Addr) (s : Shared) (H : Hp) (C : Addr) : Cx where
  prog := X.prog
  w := X.w
  K := X.K
  mg := X.mg
  base := X.base
  A := X.A
  N := NY
  s₀ := s
  H₀ := H
  env := compEnvC scope cl C X.env
  outer := X.stack
  stack := X.stack
  ex := fp
  fn := fun _ => false
  calm := X.calm
  pn := []
  xe := fun _ _ => False
def PIfs (X : Cx) (ifs : List Expr) (t : TT) : Prop :=
  ∀ (pins : List (Addr × Obj)) (s : Shared) (σ : St) (H : Hp) (Q : Bool → Hp → Prop), Inv X pins σ H s → t σ H Q →
    wpAny (model X.prog X.w) X.A (forIn ifs true fun c r => if r = true then do let ok ← isTrue c X.env (eval c X.env); pure (ForInStep.yield ok) else pure (ForInStep.yield r)) (TP X pins σ Q) X.xe s
theorem pifs_nil {X : Cx} : PIfs X [] (fun _ H Q => Q true H) := fun _ _ _ H _ I h => wpAny_tests_nil ⟨H, I, h⟩
theorem pifs_one {X : Cx} {c : Expr} {t : TT} (h : PT X c t) : PIfs X [c] t := fun pins s σ H Q I q => wpAny_tests_one (h pins s σ H Q I q)
theorem compLoopG {prog : Program} {w : World} {A : Around} {R : Result → Shared → Prop} {s : Shared} {elt target iter : Expr} {ifs : List Expr} {scope : Scope} {pos : Pos} {it acc : Value} {env : Env} (J : Nat → Shared → Prop)
    (turn : ∀ n s, J n s → wpAny (model prog w) A (pyNext it) (fun r s₁ => match r with
      | none => R (.ok .next) s₁
      | some v => wpAny (model prog w) A (letOwnedTupleGo target it v) (fun _ s₁' => wpAny (model prog w) A (assign target env v) (fun _ s₂ =>
          wpAny (model prog w) A (forIn ifs true fun c r => if r = true then do let ok ← isTrue c env (eval c env); pure (ForInStep.yield ok) else pure (ForInStep.yield r)) (fun ok s₃ =>
            if ok = true then wpAny (model prog w) A (eval elt env) (fun x s₄ =>
              wpAny (model prog w) A (call (.builtin "list.append") [acc, x]) (fun _ s₅ => ∃ m, m < n ∧ J m s₅) (fun _ _ => False) s₄) (fun _ _ => False) s₃
            else ∃ m, m < n ∧ J m s₃) (fun _ _ => False) s₂) (fun _ _ => False) s₁') (fun _ _ => False) s₁) (fun _ _ => False) s)
    (n : Nat) (h : J n s) :
    codeAny (model prog w) A (.compLoop (.ListComp elt [⟨target, iter, ifs, 0⟩] scope pos) 0 it acc env) R s := by
  refine codeAny_loop rfl J (fun n s hI => ?_) n h
  show wpAny _ A ((compTurn (.ListComp elt [⟨target, iter, ifs, 0⟩] scope pos) 0 it acc env).onRaise (fun x => do noteFrame x env; theTreesLotGoes x)) _ _ s
  refine wpAny_noted ?_
  rw [compTurn_list]
  refine wpAny_bind (wpAny_standAt (wpAny_bind (wpAny_mono (turn n s hI) (fun r s₁ h₁ => ?_) fun _ _ h' => h'.elim)))
  cases r with
  | none => exact wpAny_pure h₁
  | some v =>
    refine wpAny_bind (wpAny_mono h₁ (fun _ s₁' h₁' => ?_) fun _ _ h' => h'.elim)
    refine wpAny_bind (wpAny_mono h₁' (fun _ s₂ h₂ => wpAny_bind (wpAny_mono h₂ (fun ok s₃ h₃ => ?_) fun _ _ h' => h'.elim)) fun _ _ h' => h'.elim)
    cases ok with
    | false => exact wpAny_pure ⟨rfl, h₃⟩
    | true =>
      exact wpAny_bind (wpAny_bind (wpAny_mono h₃ (fun x s₄ h₄ => wpAny_bind (wpAny_mono h₄ (fun _ s₅ h₅ => wpAny_pure (wpAny_pure ⟨rfl, h₅⟩)) fun _ _ h' => h'.elim)) fun _ _ h' => h'.elim))
abbrev LcIn (cap : List (Option Nat)) (g : TG) (tt : TT) (te : TE) (σ : St) (Q : VK) (J : It) (H1 : Hp) : Prop := ∃ W : Nat → Nat → List V → Hp → Prop, (∃ m, W 0 m [] H1) ∧ ∀ i m ys H, W i m ys H →
  (J.stop i H ∧ ∀ p, H p = none → Q (.ref p) (upd H p (.lst ys))) ∨
  (J.go i H ∧ ys.length < sizeLine ∧ ∀ x H', J.yld i H x H' → g x (capSt cap σ) H' fun σ2 H2 => tt σ2 H2 fun b H3 => if b = true then te σ2 H3 fun v H4 => ∃ m', m' < m ∧ W (i + 1) m' (ys ++ [v]) H4 else ∃ m', m' < m ∧ W (i + 1) m' ys H3)
def tLc (cap : List (Option Nat)) (wi : TI) (g : TG) (tt : TT) (te : TE) : TE := fun σ H Q => wi σ H (LcIn cap g tt te σ Q)
section
variable {X : Cx}
theorem pe_lc {elt tg iter : Expr} {ifs : List Expr} {scope : Scope} {pos : Pos} {cl : List (Str × Addr)} {NY : List Str} {cap : List (Option Nat)} {wi : TI} {g : TG} {tt : TT} {te : TE} (hc : X.calm = true) (hi : PI X tg iter wi)
    (hclos : closureFor scope X.env = pure cl) (hci : CellsIn X.env cl) (hcap : CapOk X.env (relabel scope X.env) X.N NY cap)
    (hb : ∀ fp s H C, PG (cxComp X scope cl NY fp s H C) tg g ∧ PIfs (cxComp X scope cl NY fp s H C) ifs tt ∧ PE (cxComp X scope cl NY fp s H C) elt te)
    (hkind : scope.kind = .function := by rfl) (hnc : (scope.names.all fun y => y.2 != .cell) = true := by rfl)
    (hnames : (scope.names.all fun y => y.2 != .local || scope.names.lookup y.1 == some .local) = true := by rfl)
    (hhas : ((relabel scope X.env).names.all fun p => (p.2 != .cell && p.2 != .free) || (cl.lookup p.1).isSome) = true := by rfl)
    (hs : ∀ x, foldedSetIterable iter X.env x = pure x := by intro _; rfl) :
    PE X (.ListComp elt [⟨tg, iter, ifs, 0⟩] scope pos) (tLc cap wi g tt te) := by
  have hnc' : ∀ y ∈ scope.names, y.2 ≠ .cell := fun y hy => by
    have q := List.all_eq_true.mp hnc y hy
    simpa using q
  have hnames' : ∀ y ∈ scope.names, y.2 = .local → scope.names.lookup y.1 = some .local := fun y hy e => by
    have q := List.all_eq_true.mp hnames y hy
    rw [e] at q
    simpa using q
  intro pins s σ H Q I h
  rw [eval_ListComp]
  refine wpAny_comprehension_free (use := none) rfl hs hclos hkind hnames' (wpAny_mono (hi pins s σ H _ I h) (fun v s1 h1 => wpAny_mono h1 (fun itv s2 h2 => ?_) fun _ _ e => e) fun _ _ e => e)
  obtain ⟨it, fp, tn, J, H2, e, I2, T, st2, f2, W, ⟨m0, w0⟩, turn⟩ := h2
  subst e
  refine wpAny_newObj_type (wpAny_newFunctionEnv hnc' (by intro y hy; simp at hy) (fun h₁ hns₁ hsb₁ => ?_) hkind)
  dsimp only at hns₁ hsb₁ ⊢
  generalize hH2 : s2.heap.push { cls := .type "list", dict := none, data := .seq ([] : List Value).toArray } = G2 at hns₁ hsb₁ ⊢
  have hC : G2.objs.size = s2.heap.objs.size + 1 := by rw [← hH2, Heap.size_push]
  have hDC : s2.heap.objs.size ≠ G2.objs.size := by rw [hC]; exact Nat.ne_of_lt (Nat.lt_succ_self _)
  have hDlt : s2.heap.objs.size ≤ G2.objs.size := by rw [hC]; exact Nat.le_succ _
  have below : ∀ b, b < s2.heap.objs.size → b ≠ G2.objs.size ∧ b ≠ s2.heap.objs.size := fun b hb => ⟨by rw [hC]; exact Nat.ne_of_lt (Nat.lt_succ_of_lt hb), Nat.ne_of_lt hb⟩
  have old : ∀ b o, s2.heap.get? b = some o → h₁.get? b = some o := fun b o e => hsb₁.extBut b o (below b (Heap.lt_size e)).1 (Heap.get?_push_of_some _ (hH2 ▸ Heap.get?_push_of_some _ e))
  have hacc : h₁.get? s2.heap.objs.size = some { cls := .type "list", data := .seq ([] : List Value).toArray 0 } := hsb₁.extBut _ _ hDC (Heap.get?_push_of_some _ (hH2 ▸ Heap.get?_push_size _ rfl))
  have fpl : ∀ b ∈ fp, b < s2.heap.objs.size := fun b hb => by
    obtain ⟨o, e, _⟩ := T.obj _ _ st2 b hb
    exact Heap.lt_size e
  have freshD : H2 s2.heap.objs.size = none := I2.hok.fresh (Nat.le_refl _)
  have freshC : H2 G2.objs.size = none := I2.hok.fresh hDlt
  have cellLt : ∀ x c, X.env.cells.lookup x = some c → c < s2.heap.objs.size := fun x c e => by
    obtain ⟨v, q⟩ := I2.cell x c e
    exact q.lt
  have hclX : ∀ x c, cl.lookup x = some c → X.env.cells.lookup x = some c := fun x c e => hci.get e
  obtain ⟨hbg, hbt, hbe⟩ := hb fp s2 H2 G2.objs.size
  have okY : (cxComp X scope cl NY fp s2 H2 G2.objs.size).Ok := by
    refine ⟨I2.ok.mod, hkind, I2.ok.glob, I2.ok.blt, hDlt, fun x y c e1 e2 => I2.ok.inj x y c (hclX x c e1) (hclX y c e2), fun x hx => ?_, fun x c hf _ => ?_, I2.ok.hd, I2.ok.frames, .inl rfl, fun b hb => ⟨(below b (fpl b hb)).1, fun x c e z => ?_⟩, I2.bs,
      Nat.le_trans I2.ok.bsz I2.sz, fun b o e hb => ?_, fun b hb hz => ?_, I2.stack, I2.stkFree⟩
    · have hx' : (relabel scope X.env).names.lookup x = some .cell ∨ (relabel scope X.env).names.lookup x = some .free := hx
      have key : ∀ k, (relabel scope X.env).names.lookup x = some k → (k = .cell ∨ k = .free) → ∃ c, cl.lookup x = some c := fun k e hk => by
        have q := List.all_eq_true.mp hhas (x, k) (PySem.mem_of_lookup e)
        have q' : (cl.lookup x).isSome = true := by
          rcases hk with rfl | rfl <;> simpa using q
        exact Option.isSome_iff_exists.mp q'
      rcases hx' with e | e
      · exact key _ e (.inl rfl)
      · exact key _ e (.inr rfl)
    · exact absurd (show false = true from hf) Bool.false_ne_true
    · exact (f2 b hb).2.2.2.2.1 x c (hclX x c e) z
    · rcases (f2 b hb).2.2.2.1 with z | z
      · exact I2.ok.noex b o e z
      · exact absurd (Nat.lt_of_lt_of_le (Heap.lt_size (I2.ok.bs b o e).1) z) (Nat.lt_irrefl _)
    · rcases List.mem_cons.mp (I2.stkSub b hz) with z | z
      · exact (f2 b hb).2.1 z
      · exact (f2 b hb).2.2.1 z
  have fpYs : ∀ {H' : Hp} {n : Nat} {its : List Value}, (∀ b ∈ fp, H' b = none) → ∀ b ∈ fp, FpOk (cxComp X scope cl NY fp s2 H2 G2.objs.size) [(s2.heap.objs.size, { cls := .type "list", data := .seq its.toArray n })] H' b := fun {H' n its} hn b hb => by
    refine ⟨hn b hb, (below b (fpl b hb)).1, fun hz => ?_, .inl hb, fun x c e => (f2 b hb).2.2.2.2.1 x c (hclX x c e), fun p hp => ?_⟩
    · rcases List.mem_cons.mp (I2.stkSub b hz) with z | z
      · exact (f2 b hb).2.1 z
      · exact (f2 b hb).2.2.1 z
    · have e : p = (s2.heap.objs.size, { cls := .type "list", data := .seq its.toArray n }) := by simpa [cxComp] using hp
      rw [e]
      exact Ne.symm (below b (fpl b hb)).2
  have nostk : ∀ b, s2.heap.objs.size ≤ b → b ∉ frs X.stack := fun b hb hz => by
    rcases List.mem_cons.mp (I2.stkSub b hz) with z | z
    · have := I2.lt; rw [← z] at this; exact absurd (Nat.lt_of_lt_of_le this hb) (Nat.lt_irrefl _)
    · exact I2.nofs hb z
  have IY0 : Inv (cxComp X scope cl NY fp s2 H2 G2.objs.size) [(s2.heap.objs.size, { cls := .type "list", data := .seq ([] : List Value).toArray 0 })] (capSt cap σ) H2 { s2 with heap := h₁, toks := s2.toks + ([] : List (Str × Value)).length } := by
    refine ⟨okY, rfl, I2.bare, Un.kept old, ⟨_, hns₁, fun j x v e1 e2 e3 => ?_⟩, fun x c e => ?_, freshC, fun x c e => I2.freeC x c (hclX x c e), fun p hp => ?_, I2.hok.kept old, ?_⟩
    · obtain ⟨i, h1, h2, h3, h4⟩ := CapOk.get (σ := σ) hcap e1 e2
      obtain ⟨m, hn, hl⟩ := I2.loc
      have vis : Vis X.env.scope x := by rcases h3 with z | z; exact .inr (.inl z); exact .inr (.inr z)
      obtain ⟨u, r, l⟩ := hl i x v h1 h2 vis
      refine ⟨u, r, .inr ⟨h4, ?_⟩⟩
      rcases l with ⟨k, _⟩ | ⟨_, c, e, z⟩
      · rcases h3 with z | z <;> (rw [k] at z; cases z)
      · obtain ⟨c', e'⟩ := okY.has x h4
        have e' : cl.lookup x = some c' := e'
        have e'' := hclX x c' e'
        rw [e] at e''
        cases e''
        obtain ⟨o, ho, hd⟩ := z
        exact ⟨c, e', o, old _ _ ho, hd⟩
    · obtain ⟨v, o, ho, hd⟩ := I2.cell x c (hclX x c e)
      exact ⟨v, o, old _ _ ho, hd⟩
    · have e : p = (s2.heap.objs.size, { cls := .type "list", data := .seq ([] : List Value).toArray 0 }) := by simpa [cxComp] using hp
      rw [e]
      exact ⟨hacc, freshD, hDC, nostk _ (Nat.le_refl _), fun v z => by cases z⟩
    · show (capSt cap σ).length = NY.length
      unfold capSt
      rw [List.length_map]
      exact hcap.len
  have hcY : (cxComp X scope cl NY fp s2 H2 G2.objs.size).calm = true := hc
  have stW : tn 0 h₁ := T.keep _ _ _ st2 fun b _ o e => old b o e
  have loop : ∀ s₃ : Shared, s₃ = { s2 with heap := h₁, toks := s2.toks + ([] : List (Str × Value)).length } →
      codeAny (model X.prog X.w) X.A (.compLoop (.ListComp elt [⟨tg, iter, ifs, 0⟩] scope pos) 0 (.ref it) (.ref s2.heap.objs.size) (compEnvC scope cl G2.objs.size X.env))
        (compPost (model X.prog X.w) X.A X.xe none (EP X pins σ Q) (.ref s2.heap.objs.size) G2.objs.size) s₃ := by
    rintro s₃ rfl
    refine compLoopG (fun n s' => ∃ i ys its k H', Inv (cxComp X scope cl NY fp s2 H2 G2.objs.size) [(s2.heap.objs.size, { cls := .type "list", data := .seq its.toArray k })] (capSt cap σ) H' s' ∧ Vals ys its ∧ ys.length ≤ sizeLine ∧ tn i s'.heap ∧ (∀ b ∈ fp, H' b = none) ∧ W i n ys H') ?_ m0
      ⟨0, [], [], 0, H2, IY0, .nil, Nat.zero_le _, stW, fun b hb => (f2 b hb).1, w0⟩
    rintro n s3 ⟨i, ys, its, k, H3, I3, rv, hz, st3, fr3, w3⟩
    rcases turn i n ys H3 w3 with ⟨stop, qn⟩ | ⟨go, hlt, step⟩
    · refine wpAny_mono (T.done (cxComp X scope cl NY fp s2 H2 G2.objs.size) rfl rfl rfl hcY i _ s3 _ H3 (fun _ _ => False) I3 (fpYs fr3) st3 stop) (fun r s4 ⟨hr, I4⟩ => ?_) fun _ _ z => z
      subst hr
      obtain ⟨m, hnC, _⟩ := id I4.loc
      have hnC : s4.heap.Ns G2.objs.size m := hnC
      refine ⟨m, hnC, fun h' hsb => ?_⟩
      have pD := (I4.pin (s2.heap.objs.size, { cls := .type "list", data := .seq its.toArray k }) (by simp [cxComp]))
      have un : Un (frs X.stack) fp H2 H3 s2.heap s4.heap := I4.base
      have I5 : Inv X pins σ H3 s4 := I2.call' (ch := fp) I4.os un I4.hok I4.bare fun b hb => ⟨(f2 b hb).2.2.2.1, (f2 b hb).2.1, (f2 b hb).2.2.2.2.1, (f2 b hb).2.2.2.2.2⟩
      have cC : H3 G2.objs.size = none := I4.free
      have szX : X.s₀.heap.objs.size ≤ s2.heap.objs.size := I2.sz
      have I6 : Inv X pins σ H3 { s4 with heap := h' } := I5.turned (t' := s4.toks) (it := G2.objs.size) (fun b o hb e => hsb.extBut b o hb e) cC (Nat.ne_of_gt (Nat.lt_of_lt_of_le I2.lt hDlt)) (.inr (Nat.le_trans szX hDlt))
        (fun x c e z => absurd (cellLt x c e) (by rw [z]; exact Nat.not_lt.mpr hDlt)) (fun p hp z => absurd (Heap.lt_size (I2.pin p hp).1) (by rw [z]; exact Nat.not_lt.mpr hDlt))
      have I7 : Inv X pins σ (upd H3 s2.heap.objs.size (.lst ys)) { s4 with heap := h' } := I6.adopt pD.2.1 szX (Nat.ne_of_gt I2.lt) (fun x c e => Nat.ne_of_lt (cellLt x c e)) (fun p hp => Nat.ne_of_lt (Heap.lt_size (I2.pin p hp).1))
        ⟨hz, its, k, rv, hsb.extBut _ _ hDC pD.1⟩
      exact ⟨.ref s2.heap.objs.size, _, I7, rfl, qn _ pD.2.1⟩
    · refine wpAny_mono (T.item (cxComp X scope cl NY fp s2 H2 G2.objs.size) rfl rfl rfl hcY i _ s3 _ H3 (fun _ _ => False) I3 (fpYs fr3) st3 go) (fun r s4 ⟨u, hr, h4⟩ => ?_) fun _ _ z => z
      subst hr
      refine wpAny_mono h4 (fun _ s5 ⟨x, H5, I5, r5, y5, st5, fr5⟩ => ?_) fun _ _ z => z
      have I5' := I5.pinned (fpYs fr5) (T.obj _ _ st5)
      refine wpAny_mono (hbg _ s5 _ H5 x u _ I5' r5 (step x H5 y5)) (fun _ s6 ⟨σ6, H6, I6, q6⟩ => ?_) fun _ _ z => z
      refine wpAny_mono (hbt _ s6 σ6 H6 _ I6 q6) (fun ok s7 ⟨H7, I7, q7⟩ => ?_) fun _ _ z => z
      have lenY : ∀ {σ' : St} {pn} {H'} {s'}, Inv (cxComp X scope cl NY fp s2 H2 G2.objs.size) pn σ' H' s' → (capSt cap σ).length = σ'.length := fun {σ' pn H' s'} Z => IY0.len.trans Z.len.symm
      have captured : ∀ {σ' : St} {pn} {H'} {s'}, Inv (cxComp X scope cl NY fp s2 H2 G2.objs.size) pn σ' H' s' → Inv (cxComp X scope cl NY fp s2 H2 G2.objs.size) pn (capSt cap σ) H' s' := fun {σ' pn H' s'} Z => by
        refine ⟨Z.ok, Z.os, Z.bare, Z.base, ?_, Z.cell, Z.free, Z.freeC, Z.pin, Z.hok, IY0.len⟩
        obtain ⟨m, hn, _⟩ := Z.loc
        refine ⟨m, hn, fun j x v e1 e2 e3 => ?_⟩
        obtain ⟨i', h1, h2, h3, h4⟩ := CapOk.get (σ := σ) hcap e1 e2
        obtain ⟨m', hn', hl⟩ := I2.loc
        have vis : Vis X.env.scope x := by rcases h3 with z | z; exact .inr (.inl z); exact .inr (.inr z)
        obtain ⟨u, r, l⟩ := hl i' x v h1 h2 vis
        refine ⟨u, r, .inr ⟨h4, ?_⟩⟩
        rcases l with ⟨kk, _⟩ | ⟨_, c, e, z⟩
        · rcases h3 with z | z <;> (rw [kk] at z; cases z)
        · obtain ⟨c', e'⟩ := okY.has x h4
          have e' : cl.lookup x = some c' := e'
          have e'' := hclX x c' e'
          rw [e] at e''
          cases e''
          obtain ⟨o, ho, hd⟩ := z
          have nfp : c ∉ fp := fun hz => (f2 c hz).2.2.2.2.1 x c e rfl
          obtain ⟨sl, q⟩ := Z.base.any (show s2.heap.get? c = some o from ho) (I2.freeC x c e) nfp
          exact ⟨c, e', _, q, hd⟩
      have again : ∀ {ys' : List V} {its' : List Value} {k' : Nat} {σ' : St} {H' : Hp} {s' : Shared}, Inv (cxComp X scope cl NY fp s2 H2 G2.objs.size) ([(s2.heap.objs.size, { cls := .type "list", data := .seq its'.toArray k' })] ++ pinsAt fp s5.heap) σ' H' s' → Vals ys' its' → ys'.length ≤ sizeLine →
          (∃ m', m' < n ∧ W (i + 1) m' ys' H') → ∃ m, m < n ∧ ∃ i ys its k H', Inv (cxComp X scope cl NY fp s2 H2 G2.objs.size) [(s2.heap.objs.size, { cls := .type "list", data := .seq its.toArray k })] (capSt cap σ) H' s' ∧ Vals ys its ∧ ys.length ≤ sizeLine ∧ tn i s'.heap ∧ (∀ b ∈ fp, H' b = none) ∧ W i m ys H' := fun {ys' its' k' σ' H' s'} Z rv' hz' hw => by
        obtain ⟨m', hm, w'⟩ := hw
        refine ⟨m', hm, i + 1, ys', its', k', H', captured Z.unpinned, rv', hz', T.keep _ _ _ st5 fun b hb o e => (Z.pin (b, o) (List.mem_append_right _ (List.mem_append_right _ (mem_pinsAt hb e)))).1, fun b hb => ?_, w'⟩
        obtain ⟨o, e, d⟩ := T.obj _ _ st5 b hb
        exact (Z.pin (b, o) (List.mem_append_right _ (List.mem_append_right _ (mem_pinsAt hb e)))).2.1
      cases ok with
      | false =>
        rw [if_neg Bool.false_ne_true] at q7 ⊢
        exact again I7 rv hz q7
      | true =>
        rw [if_pos rfl] at q7 ⊢
        refine wpAny_mono (hbe _ s7 σ6 H7 _ I7 q7) (fun xv s8 ⟨v, H8, I8, r8, q8⟩ => ?_) fun _ _ z => z
        have pD := I8.pin (s2.heap.objs.size, { cls := .type "list", data := .seq its.toArray k }) (by simp [cxComp])
        have hlen := rv.length
        refine append_at pD.1 (fun h9 hs9 hD9 => ?_) (by rw [List.size_toArray]; omega)
        have I9 : Inv (cxComp X scope cl NY fp s2 H2 G2.objs.size) (pinsAt fp s5.heap) σ6 H8 s8 := I8.pins_of fun p hp => I8.pin p (List.mem_append_right _ (List.mem_append_right _ hp))
        have I10 : Inv (cxComp X scope cl NY fp s2 H2 G2.objs.size) (pinsAt fp s5.heap) σ6 H8 { s8 with heap := h9 } := I9.turned (t' := s8.toks) (it := s2.heap.objs.size) (fun b o hb e => hs9.extBut b o hb e) pD.2.1 hDC (.inr (Nat.le_refl _))
          (fun x c e => Nat.ne_of_lt (cellLt x c (hclX x c e))) fun p hp => by
            have hp' : p ∈ pinsAt fp s5.heap := by simpa [cxComp] using hp
            exact Ne.symm (Ne.symm (below _ (fpl _ (of_pinsAt hp').1)).2)
        have I11 : Inv (cxComp X scope cl NY fp s2 H2 G2.objs.size) ([(s2.heap.objs.size, { cls := .type "list", data := .seq (its ++ [xv]).toArray (k + 1) })] ++ pinsAt fp s5.heap) σ6 H8 { s8 with heap := h9 } := I10.pins_of fun p hp => by
          rcases List.mem_append.mp hp with z | z
          · have e : p = (s2.heap.objs.size, { cls := .type "list", data := .seq (its ++ [xv]).toArray (k + 1) }) := by simpa using z
            rw [e]
            refine ⟨?_, pD.2.1, hDC, nostk _ (Nat.le_refl _), fun v z => by cases z⟩
            rw [List.push_toArray] at hD9
            exact hD9
          · exact I10.pin p (List.mem_append_right _ z)
        exact again I11 (rv.append (.cons r8 .nil)) (by rw [List.length_append, List.length_singleton]; exact hlt) q8
  exact codeAny_compStart_list (loop _ rfl) (T.self _ 0 _ _ _ stW (loop _ rfl))
end
end L2
set_option Elab.async false
set_option linter.all false
set_option maxRecDepth 100000
set_option maxHeartbeats 4000000
namespace L2
open PySem PySem.Spec PyProof.Rows
section
variable {X : Cx}
theorem call_isinst {n : String} : CallR X (.builtin "isinstance") (fun xs H Q => ∃ x t b, xs = [x, .ty n] ∧ TyOf X.K H x t ∧ PySem.W.kitOne X.K t (.type n) = some b ∧ Q (.bl b) H) := by
  intro pins s σ H xs us Q I r h
  obtain ⟨x, t, b, rfl, ty, e, q⟩ := h
  obtain ⟨u, w', rfl, rx, rt⟩ := vals2 r
  cases rt
  exact isinst_ok I rx ty e fun tk => ⟨.bl b, H, I.tok _, rfl, q⟩
theorem op_fdivB : OpR X (binaryOp .FloorDiv) (rI (fun _ j => 0 < j ∧ j < 2 ^ 64) fun i j => .int (i / j)) := opI fun i j _ _ _ _ _ hc q => by
  have h1 : (0 : Int) < j := hc.1
  have h2 : j < 2 ^ 64 := hc.2
  refine floordiv_int (by omega) (by rw [Int.fdiv_eq_ediv_of_nonneg i (by omega)]; exact q) (.inl (PyProof.noPylong_of_log2 ?_))
  have h3 : j.natAbs < 2 ^ 64 := by omega
  have h4 : j.natAbs ≠ 0 := by omega
  have h5 : j.natAbs.log2 < 64 := (Nat.log2_lt h4).mpr h3
  omega
def Cal (P : Program) (w : World) (K : PySem.W.Frag) (mg : Str → Option Value) (base : Heap) (x : Str) (k : Nat) (ps : List Str) (sp : Sp) : Prop :=
  ∃ f fd, FnOk P w K mg base CX0 k f fd ps sp ∧ Binds K fd ps [] ∧ PySem.W.keepIn K (.ref f) = true ∧ mg x = some (.ref f)
theorem pe_cal {x : Str} {k k' : Nat} {ps : List Str} {sp : Sp} {e : Expr} {es : List Expr} {t : TA} {p pos : Pos} (C : Cal X.prog X.w X.K X.mg X.base x k ps sp) (hr : Room k' X.A) (hk : k ≤ k') (hg : Gl X x) (ha : PA X (e :: es) t)
    (hdb : (x == ("__debug__" : Str)) = false := by decide) (he : starEach (e :: es) X.env = (false, eval e X.env) :: starEach es X.env := by rfl) (hpl : (backTo pos (starEach es X.env)).any (·.1) = false := by rfl) :
    PE X (.Call (.Name x p) (e :: es) [] pos) (tCall sp [] E0 t) := by
  obtain ⟨f, fd, F, b, kp, m⟩ := C
  exact pe_call F (hr.mono hk) hg m kp b .nil pass0 ha hdb he hpl
end
theorem Same.new {H : Hp} {p : Addr} (h : H p = none) (o : HO) : Same H (upd H p o) := fun b u q => by rw [upd_ne (ne_of_none q h)]; exact q
def But (w : Addr) (H H' : Hp) : Prop := ∀ b o, b ≠ w → H b = some o → H' b = some o
theorem But.refl {w : Addr} {H : Hp} : But w H H := fun _ _ _ h => h
theorem But.trans {w : Addr} {H H1 H2 : Hp} (a : But w H H1) (b : But w H1 H2) : But w H H2 := fun c o n h => b c o n (a c o n h)
theorem But.of {w : Addr} {H H' : Hp} (a : Same H H') : But w H H' := fun c o _ h => a c o h
theorem But.new {w : Addr} {H : Hp} {p : Addr} (h : H p = none) (o : HO) : But w H (upd H p o) := But.of (Same.new h o)
theorem But.put {w : Addr} {H : Hp} {o : HO} : But w H (upd H w o) := fun b u n q => by rw [upd_ne n]; exact q
end L2
set_option Elab.async false
set_option linter.all false
set_option maxRecDepth 100000
set_option maxHeartbeats 4000000
namespace Srt
open PySem PySem.W PyProof.Rows
def run {α : Type} (lt : Nat → Nat → Bool) : KasT α → α
  | .ret a => a
  | .ask i j k => run lt (k (lt i j))
section
variable (key : Nat → Int)
abbrev lt : Nat → Nat → Bool := fun i j => decide (key i < key j)
def kp (p : Array Nat) (x : Nat) : Int := key (p.getD x 0)
variable {key}
end
end Srt
set_option Elab.async false
set_option linter.all false
set_option maxRecDepth 100000
set_option maxHeartbeats 4000000
namespace Srt
open PySem PySem.W PyProof.Rows
section
variable {prog : Program} {w : World} {A : Around} {E : Value → Shared → Prop} {s : Shared}
end
end Srt
set_option Elab.async false
set_option linter.all false
set_option maxRecDepth 100000
set_option maxHeartbeats 2000000
namespace L2
open PySem PySem.Spec PyProof.Rows
inductive EqR (K : PySem.W.Frag) (H : Hp) : Nat → V → V → Bool → Prop
  | flat {n : Nat} {x y : V} (fx : flatV x = true) (fy : flatV y = true) : EqR K H n x y (eqV x y)
  | lens {n : Nat} {a b : Addr} {xs ys : List V} (ha : SqL K H a xs) (hb : SqL K H b ys) (hl : xs.length ≠ ys.length) : EqR K H (n + 1) (.ref a) (.ref b) false
  | lst {n : Nat} {a b : Addr} {xs ys : List V} {e : Nat → Bool} (ha : SqL K H a xs) (hb : SqL K H b ys) (hl : xs.length = ys.length) (h : ∀ (j : Nat) x y, xs[j]? = some x → ys[j]? = some y → EqR K H n x y (e j)) : EqR K H (n + 1) (.ref a) (.ref b) ((List.range xs.length).all e)
  | tup {n : Nat} {a b : Addr} {xs ys : List V} {e : Nat → Bool} (ha : SqT K H a xs) (hb : SqT K H b ys) (h : ∀ (j : Nat) x y, xs[j]? = some x → ys[j]? = some y → EqR K H n x y (e j)) :
      EqR K H (n + 1) (.ref a) (.ref b) ((List.range (min xs.length ys.length)).all e && xs.length == ys.length)
theorem eqV_self {x : V} (f : flatV x = true) : eqV x x = true := by
  cases x <;> first | rfl | (simp [eqV]; done) | exact absurd (show false = true from f) Bool.false_ne_true
section
variable {X : Cx} {pins : List (Addr × Obj)} {σ : St} {H : Hp} {s : Shared}
theorem EqR.self (I : Inv X pins σ H s) {n : Nat} {x y : V} {b : Bool} (h : EqR X.K H n x y b) : x = y → b = true := by
  induction h with
  | flat fx fy => intro e; subst e; exact eqV_self fx
  | lens ha hb hl =>
    intro e
    injection e with e; subst e
    exact absurd (by rw [I.list_inj ha hb]) hl
  | @lst n a b xs ys e ha hb hl h ih =>
    intro q
    injection q with q; subst q
    obtain rfl := I.list_inj ha hb
    rw [List.all_eq_true]
    intro j hj
    have hj' : j < xs.length := List.mem_range.mp hj
    exact ih j _ _ (List.getElem?_eq_getElem hj') (List.getElem?_eq_getElem hj') rfl
  | @tup n a b xs ys e ha hb h ih =>
    intro q
    injection q with q; subst q
    obtain rfl := I.tuple_inj ha hb
    rw [Bool.and_eq_true, List.all_eq_true]
    refine ⟨fun j hj => ?_, beq_self_eq_true _⟩
    have hj' : j < xs.length := by have := List.mem_range.mp hj; omega
    exact ih j _ _ (List.getElem?_eq_getElem hj') (List.getElem?_eq_getElem hj') rfl
theorem paired_at {xs : List V} {its : List Value} (r : Vals xs its) {j : Nat} (h : j < its.toArray.size) : ∃ x, xs[j]? = some x ∧ RelV x its.toArray[j] := by
  have hl := r.length
  have h' : j < xs.length := by rw [hl]; simpa using h
  obtain ⟨u, hu, ru⟩ := r.get (List.getElem?_eq_getElem h')
  refine ⟨_, List.getElem?_eq_getElem h', ?_⟩
  have e : its.toArray[j] = u := by
    have : its[j]? = some u := hu
    rw [List.getElem?_eq_getElem (by simpa using h)] at this
    simpa using Option.some.inj this
  rw [e]; exact ru
theorem EqR.at (I : Inv X pins σ H s) {n : Nat} {x y : V} {b : Bool} (h : EqR X.K H n x y b) : ∀ {A : Around} {u v : Value}, RelV x u → RelV y v → A.units + n < cLine → SeqAt.EqAt A s u v b := by
  induction h with
  | flat fx fy => intro A u v rx ry hu; exact eqAt_V rx ry fx fy
  | @lens n a b xs ys ha hb hl =>
    intro A u v rx ry hu
    cases rx; cases ry
    obtain ⟨its, r, pl, _⟩ := I.list ha
    obtain ⟨its2, r2, pl2, _⟩ := I.list hb
    have ne : a ≠ b := fun e => by subst e; exact hl (by rw [I.list_inj ha hb])
    refine .of_refs ne (.lists_lengths pl.isList pl2.isList ?_ (by omega))
    rw [List.size_toArray, List.size_toArray, ← r.length, ← r2.length]
    exact bne_iff_ne.mpr hl
  | @lst n a b xs ys e ha hb hl h ih =>
    intro A u v rx ry hu
    by_cases q : a = b
    · have := (EqR.lst ha hb hl h).self I (by rw [q])
      cases rx; cases ry
      rw [this]
      subst q
      exact SeqAt.EqAt.same _
    · cases rx; cases ry
      obtain ⟨its, r, pl, _⟩ := I.list ha
      obtain ⟨its2, r2, pl2, _⟩ := I.list hb
      have e1 : its.toArray.size = xs.length := by rw [List.size_toArray, r.length]
      rw [← e1]
      refine .of_refs q (.lists pl.isList pl2.isList (by rw [List.size_toArray, List.size_toArray, ← r.length, ← r2.length]; exact hl) (by omega) fun j h1 h2 => ?_)
      obtain ⟨x, hx, rx⟩ := paired_at r h1
      obtain ⟨y, hy, ry⟩ := paired_at r2 h2
      exact ih j x y hx hy rx ry (by show A.units + 1 + n < cLine; omega)
  | @tup n a b xs ys e ha hb h ih =>
    intro A u v rx ry hu
    by_cases q : a = b
    · have := (EqR.tup ha hb h).self I (by rw [q])
      cases rx; cases ry
      rw [this]
      subst q
      exact SeqAt.EqAt.same _
    · cases rx; cases ry
      obtain ⟨its, r, pl, _⟩ := I.tuple ha
      obtain ⟨its2, r2, pl2, _⟩ := I.tuple hb
      have e1 : its.toArray.size = xs.length := by rw [List.size_toArray, r.length]
      have e2 : its2.toArray.size = ys.length := by rw [List.size_toArray, r2.length]
      rw [← e1, ← e2]
      refine .of_refs q (.tuples pl pl2 (by omega) fun j h1 h2 => ?_)
      obtain ⟨x, hx, rx⟩ := paired_at r h1
      obtain ⟨y, hy, ry⟩ := paired_at r2 h2
      exact ih j x y hx hy rx ry (by show A.units + 1 + n < cLine; omega)
def rEqL (K : PySem.W.Frag) (neg : Bool) : R2 := fun x y H Q => ∃ n a b xs ys, n ≤ 60 ∧ x = .ref a ∧ y = .ref b ∧ SqL K H a xs ∧ SqL K H b ys ∧
  ((xs.length ≠ ys.length ∧ Q (.bl neg) H) ∨ ∃ e : Nat → Bool, xs.length = ys.length ∧ (∀ (j : Nat) x y, xs[j]? = some x → ys[j]? = some y → EqR K H n x y (e j)) ∧ Q (.bl (if neg then !(List.range xs.length).all e else (List.range xs.length).all e)) H)
theorem op_eqL (hu : X.A.units + 64 < cLine) : OpR X (compareOp .Eq) (rEqL X.K false) := by
  intro pins s σ H x y v u Q I rx ry h
  obtain ⟨n, a, b, xs, ys, hn, rfl, rfl, ha, hb, h⟩ := h
  cases rx; cases ry
  obtain ⟨its, r, pl, _⟩ := I.list ha
  obtain ⟨its2, r2, pl2, _⟩ := I.list hb
  have e1 : its.toArray.size = xs.length := by rw [List.size_toArray, r.length]
  have e2 : its2.toArray.size = ys.length := by rw [List.size_toArray, r2.length]
  rcases h with ⟨hl, q⟩ | ⟨e, hl, he, q⟩
  · exact SeqAt.eq_list_lengthsAt pl.isList pl2.isList (by rw [e1, e2]; exact bne_iff_ne.mpr hl) (by omega) ⟨.bl false, H, I, rfl, q⟩
  · refine SeqAt.eq_listAt (e := e) pl.isList pl2.isList (by rw [e1, e2]; exact hl) (by omega) (fun j h1 h2 => ?_) ?_
    · obtain ⟨x, hx, rx⟩ := paired_at r h1
      obtain ⟨y, hy, ry⟩ := paired_at r2 h2
      exact (he j x y hx hy).at I rx ry (by show X.A.units + 1 + n < cLine; omega)
    · rw [e1]; exact ⟨.bl _, H, I, rfl, q⟩
end
end L2
set_option Elab.async false
set_option linter.all false
set_option maxRecDepth 100000
set_option maxHeartbeats 2000000
namespace L2
open PySem PySem.Spec PyProof.Rows
section
variable {X : Cx}
end
end L2
set_option Elab.async false
set_option linter.all false
set_option maxRecDepth 100000
set_option maxHeartbeats 2000000
namespace L2
open PySem PySem.Spec PyProof.Rows
section
variable {X : Cx} {K : PySem.W.Frag}
theorem ix_tupK (hK : X.K = K) : IxR X (rIxT K) := by subst hK; exact ix_tup
end
def Nxt (n i : Nat) (P : Prop) : Prop := ∃ m', m' < n - i ∧ m' = n - (i + 1) ∧ i + 1 ≤ n ∧ P
theorem lc_tup {K : PySem.W.Frag} {a : Addr} {xs : List V} {cap : List (Option Nat)} {g : TG} {tt : TT} {te : TE} {σ : St} {H : Hp} {Q : VK} (Pv : Nat → List V → Hp → Prop) (h0 : Pv 0 [] H) (hl : ∀ i ys H, i ≤ xs.length → Pv i ys H → SqT K H a xs ∧ ys.length < sizeLine)
    (hs : ∀ i x ys H, xs[i]? = some x → Pv i ys H → (∀ {P : Prop}, P → Nxt xs.length i P) → g x (capSt cap σ) H fun σ2 H2 => tt σ2 H2 fun b H3 => if b = true then te σ2 H3 fun v H4 => Nxt xs.length i (Pv (i + 1) (ys ++ [v]) H4) else Nxt xs.length i (Pv (i + 1) ys H3)) (hd : ∀ ys H, Pv xs.length ys H → ∀ p, H p = none → Q (.ref p) (upd H p (.lst ys))) :
    LcIn cap g tt te σ Q (Itt K a) H := by
  refine ⟨fun i m ys H => m = xs.length - i ∧ i ≤ xs.length ∧ Pv i ys H, ⟨xs.length, by simp, Nat.zero_le _, h0⟩, ?_⟩
  rintro i m ys H ⟨rfl, hi, p⟩
  have q := hl i ys H hi p
  by_cases hlt : i < xs.length
  · refine .inr ⟨⟨xs, xs[i], q.1, by simp [hlt]⟩, q.2, fun x H' y => ?_⟩
    obtain ⟨e, y⟩ := y
    subst e
    exact hs i x ys _ (y xs q.1) p fun h => ⟨_, by omega, rfl, hlt, h⟩
  · have e : i = xs.length := by omega
    subst e
    exact .inl ⟨⟨xs, q.1, Nat.le_refl _⟩, hd ys H p⟩
theorem lc_range {lo : Int} {n : Nat} {cap : List (Option Nat)} {g : TG} {tt : TT} {te : TE} {σ : St} {H : Hp} {Q : VK} (Pv : Nat → List V → Hp → Prop) (h0 : Pv 0 [] H) (hl : ∀ i ys H, i ≤ n → Pv i ys H → ys.length < sizeLine)
    (hs : ∀ i ys H, i < n → Pv i ys H → (∀ {P : Prop}, P → Nxt n i P) → g (.int (lo + i)) (capSt cap σ) H fun σ2 H2 => tt σ2 H2 fun b H3 => if b = true then te σ2 H3 fun v H4 => Nxt n i (Pv (i + 1) (ys ++ [v]) H4) else Nxt n i (Pv (i + 1) ys H3)) (hd : ∀ ys H, Pv n ys H → ∀ p, H p = none → Q (.ref p) (upd H p (.lst ys))) :
    LcIn cap g tt te σ Q (Itr lo n) H := by
  refine ⟨fun i m ys H => m = n - i ∧ i ≤ n ∧ Pv i ys H, ⟨n, by simp, Nat.zero_le _, h0⟩, ?_⟩
  rintro i m ys H ⟨rfl, hi, p⟩
  have q := hl i ys H hi p
  by_cases hlt : i < n
  · refine .inr ⟨hlt, q, fun x H' y => ?_⟩
    obtain ⟨e, y⟩ := y
    subst e y
    exact hs i ys _ hlt p fun h => ⟨_, by omega, rfl, hlt, h⟩
  · have e : i = n := by omega
    subst e
    exact .inl ⟨Nat.le_refl _, hd ys H p⟩
end L2
set_option Elab.async false
set_option linter.all false
set_option maxRecDepth 100000
set_option maxHeartbeats 2000000
namespace L2
open PySem PySem.Spec PyProof.Rows
def kDat : Key → PyData
  | .inl i => .int i
  | .inr x => .str x
mutual
def Dat (H : Hp) : PyData → V → Prop
  | .none, v => v = .non
  | .bool b, v => v = .bl b
  | .int i, v => v = .int i
  | .str x, v => v = .str x
  | .list ds, v => ∃ a xs, v = .ref a ∧ H a = some (.lst xs) ∧ DatAll H ds xs
  | .tuple ds, v => ∃ a xs, v = .ref a ∧ H a = some (.tup xs) ∧ DatAll H ds xs
  | .dict kvs, v => ∃ a ks, v = .ref a ∧ H a = some (.dK ks) ∧ DatKv H kvs ks
def DatAll (H : Hp) : List PyData → List V → Prop
  | [], vs => vs = []
  | d :: ds, vs => ∃ v r, vs = v :: r ∧ Dat H d v ∧ DatAll H ds r
def DatKv (H : Hp) : List (PyData × PyData) → List (Key × V) → Prop
  | [], ks => ks = []
  | (k, d) :: r, ks => ∃ q v t, ks = (q, v) :: t ∧ k = kDat q ∧ Dat H d v ∧ DatKv H r t
end
section
variable {X : Cx} {pins : List (Addr × Obj)} {σ : St} {H : Hp} {s : Shared}
theorem Inv.nosys (I : Inv X pins σ H s) {a : Addr} {o : HO} (h : H a = some o) : a ≠ sysModules := fun e => by
  obtain ⟨mm, ob, es, ep, g, _⟩ := I.mod.sysm
  have := (I.bs _ _ g).2
  rw [← e, h] at this; cases this
theorem key_reads {P : Program} {w : World} {h : Heap} {q : Key} {v : Value} (e : (mixKind P w).is q v = true) : Reads h v (kDat q) [] := by
  rw [mixKind_is] at e
  rcases keyIs_shape e with ⟨i, t, rfl, rfl⟩ | ⟨x, t, rfl, rfl⟩
  · exact .int i t
  · exact .str x t
mutual
theorem Dat.reads (I : Inv X pins σ H s) : ∀ (d : PyData) (v : V) (u : Value), Dat H d v → RelV v u → ∃ as, Reads s.heap u d as ∧ sysModules ∉ as
  | .none, v, u, h, r => by
    simp only [Dat] at h; subst h; cases r; exact ⟨_, .none, by simp⟩
  | .bool b, v, u, h, r => by
    simp only [Dat] at h; subst h; cases r; exact ⟨_, .bool b, by simp⟩
  | .int i, v, u, h, r => by
    simp only [Dat] at h; subst h; obtain ⟨t, rfl⟩ := r; exact ⟨_, .int i t, by simp⟩
  | .str x, v, u, h, r => by
    simp only [Dat] at h; subst h; obtain ⟨t, rfl⟩ := r; exact ⟨_, .str x t, by simp⟩
  | .list ds, v, u, h, r => by
    simp only [Dat] at h
    obtain ⟨a, xs, rfl, hr, hd⟩ := h
    cases r
    obtain ⟨its, rv, ⟨o, n, e1, e2, _, e3⟩, _⟩ := I.list (SqL.of hr)
    obtain ⟨as, ra, na⟩ := DatAll.reads I ds xs its hd rv
    have ho := hr
    refine ⟨_, .list e1 e2 e3 (by simpa using ra), fun z => ?_⟩
    rcases List.mem_cons.mp z with z | z
    · exact I.nosys ho z.symm
    · exact na z
  | .tuple ds, v, u, h, r => by
    simp only [Dat] at h
    obtain ⟨a, xs, rfl, hr, hd⟩ := h
    cases r
    obtain ⟨its, rv, ⟨o, e1, e2, n, e3⟩, _⟩ := I.tuple (SqT.of hr)
    obtain ⟨as, ra, na⟩ := DatAll.reads I ds xs its hd rv
    exact ⟨_, .tuple e1 e2 e3 (by simpa using ra), na⟩
  | .dict kvs, v, u, h, r => by
    simp only [Dat] at h
    obtain ⟨a, ks, rfl, hr, hd⟩ := h
    cases r
    obtain ⟨_, _, vs, rel, o, es, ep, e1, ex, e3, _, pr, _⟩ := dk_of I.hok hr
    obtain ⟨as, bs, ra, rb, na, nb⟩ := DatKv.reads I kvs ks vs es.toList hd rel pr
    have ho := hr
    refine ⟨_, .dict e1 ex.1 e3 ra rb, fun z => ?_⟩
    rcases List.mem_append.mp z with z | z
    · rcases List.mem_cons.mp z with z | z
      · exact I.nosys ho z.symm
      · exact na z
    · exact nb z
theorem DatAll.reads (I : Inv X pins σ H s) : ∀ (ds : List PyData) (vs : List V) (us : List Value), DatAll H ds vs → Vals vs us → ∃ as, ReadsAll s.heap us ds as ∧ sysModules ∉ as
  | [], vs, us, h, r => by
    simp only [DatAll] at h; subst h; cases r; exact ⟨_, .nil, by simp⟩
  | d :: ds, vs, us, h, r => by
    simp only [DatAll] at h
    obtain ⟨v, t, rfl, h1, h2⟩ := h
    cases r with
    | cons r1 r2 =>
      obtain ⟨as, ra, na⟩ := Dat.reads I d v _ h1 r1
      obtain ⟨bs, rb, nb⟩ := DatAll.reads I ds t _ h2 r2
      exact ⟨_, .cons ra rb, fun z => (List.mem_append.mp z).elim na nb⟩
theorem DatKv.reads (I : Inv X pins σ H s) : ∀ (kvs : List (PyData × PyData)) (ks : List (Key × V)) (vs : List (Key × Value)) (es : List DictEntry), DatKv H kvs ks → KV ks vs → Pairs (mixKind X.prog X.w) es vs →
    ∃ as bs, ReadsAll s.heap (es.map (·.key)) (kvs.map (·.1)) as ∧ ReadsAll s.heap (es.map (·.val)) (kvs.map (·.2)) bs ∧ sysModules ∉ as ∧ sysModules ∉ bs
  | [], ks, vs, es, h, r, p => by
    simp only [DatKv] at h; subst h; cases r; cases p; exact ⟨_, _, .nil, .nil, by simp, by simp⟩
  | (k, d) :: kr, ks, vs, es, h, r, p => by
    simp only [DatKv] at h
    obtain ⟨q, v, t, rfl, rfl, h1, h2⟩ := h
    cases r with
    | cons r1 r2 =>
      cases p with
      | cons p1 p2 p3 =>
        obtain ⟨rk, rv⟩ := r1
        obtain ⟨as, bs, ra, rb, na, nb⟩ := DatKv.reads I kr t _ _ h2 r2 p3
        obtain ⟨cs, rc, nc⟩ := Dat.reads I d v _ h1 rv
        have rk' : q = _ := rk
        subst rk'
        have kd := key_reads (h := s.heap) p1
        refine ⟨[] ++ as, cs ++ bs, .cons kd ra, .cons (by dsimp only; rw [p2]; exact rc) rb, by simpa using na, fun z => (List.mem_append.mp z).elim nc nb⟩
end
end
end L2
set_option Elab.async false
set_option linter.all false
set_option maxRecDepth 100000
set_option maxHeartbeats 2000000
namespace L2
open PySem PySem.Spec PyProof.Rows
section
variable {X : Cx}
def rEqD (neg : Bool) : R2 := fun x y H Q => ∃ d e, Dat H d x ∧ Dat H e y ∧ d.canLay0 = true ∧ e.canLay0 = true ∧ d.depth ≤ 60 ∧ Q (.bl (if neg then !PyData.eqv d e else PyData.eqv d e)) H
theorem op_eqD (hu : X.A.units + 64 < cLine) : OpR X (compareOp .Eq) (rEqD false) := by
  intro pins s σ H x y v u Q I rx ry h
  obtain ⟨d, e, hd, he, cd, ce, dp, q⟩ := h
  obtain ⟨as, ra, _⟩ := Dat.reads I d x _ hd rx
  obtain ⟨bs, rb, _⟩ := Dat.reads I e y _ he ry
  exact PySem.SeqAt.compareEq_reads ra rb cd ce (by omega) ⟨.bl _, H, I, rfl, q⟩
theorem op_neD (hu : X.A.units + 64 < cLine) : OpR X (compareOp .NotEq) (rEqD true) := by
  intro pins s σ H x y v u Q I rx ry h
  obtain ⟨d, e, hd, he, cd, ce, dp, q⟩ := h
  obtain ⟨as, ra, _⟩ := Dat.reads I d x _ hd rx
  obtain ⟨bs, rb, _⟩ := Dat.reads I e y _ he ry
  exact PySem.SeqAt.compareNe_reads ra rb cd ce (by omega) ⟨.bl _, H, I, rfl, q⟩
end
end L2
set_option Elab.async false
set_option linter.all false
set_option maxRecDepth 100000
set_option maxHeartbeats 2000000
namespace L2
open PySem PySem.Spec PyProof.Rows
theorem Inv.turnedL {X : Cx} {pins : List (Addr × Obj)} {σ : St} {H : Hp} {s : Shared} {h' : Heap} {t' : Nat} {fp : List Addr} (I : Inv X pins σ H s) (k : ∀ b o, b ∉ fp → s.heap.get? b = some o → h'.get? b = some o) (hf : ∀ b ∈ fp, FpOk X pins H b) : Inv X pins σ H { s with heap := h', toks := t' } := by
  have nit : ∀ b u, H b = some u → b ∉ fp := fun b u e z => by rw [(hf b z).1] at e; cases e
  refine I.step (g' := s.gens) (d' := s.drawn) (ch := fp) (fun b hb => ⟨(hf b hb).2.2.2.1, (hf b hb).2.1, (hf b hb).2.2.2.2.1, (hf b hb).2.2.2.2.2⟩) (fun b o _ _ hc e _ => k b o hc e) (fun b o _ _ hc e _ => ⟨o.slots, k b o hc e⟩) (fun _ _ _ _ n => n)
    (fun b o hc e => ⟨o, k b o hc e⟩) (fun _ _ e => e) (fun _ _ _ e => e) (fun b ps e => ⟨#[], by rw [e]; simp⟩) (fun m hm => ?_) (fun b u e => ?_) I.bare
  · obtain ⟨o, es, ep, ho, r⟩ := hm
    exact ⟨o, es, ep, k _ o (fun z => (hf _ z).2.1 rfl) ho, r⟩
  · refine (I.hok b u e).stay (fun c v hc q => k c v ?_ q) (fun _ q => q) fun _ _ q => q
    rcases hc with z | z
    · rw [z]; exact nit b u e
    · exact nit c _ z
end L2
set_option Elab.async false
set_option linter.all false
set_option maxRecDepth 100000
set_option maxHeartbeats 2000000
namespace L2
open PySem PySem.Spec PyProof.Rows
section
variable {prog : Program} {w : World} {κ : Type} [DecidableEq κ] {knd : HeapKind prog w κ} {A : Around} {E : Value → Shared → Prop} {s : Shared}
end
end L2
set_option Elab.async false
set_option linter.all false
set_option maxRecDepth 100000
set_option maxHeartbeats 2000000
namespace L2
open PySem PySem.Spec PyProof.Rows
section
variable {prog : Program} {w : World} {κ : Type} [DecidableEq κ] {knd : HeapKind prog w κ} {A : Around} {E : Value → Shared → Prop} {s : Shared}
inductive HitsH (A : Around) (s : Shared) (kb : List (κ × Addr × Value)) : List (κ × Addr × Value) → Bool → Prop
  | nil : HitsH A s kb [] true
  | miss {k : κ} {a : Addr} {v : Value} {r : List (κ × Addr × Value)} : atKey kb k = none → HitsH A s kb ((k, a, v) :: r) false
  | hit {k : κ} {a c : Addr} {v y : Value} {r : List (κ × Addr × Value)} {e b : Bool} : atKey kb k = some (c, y) → SeqAt.EqAt A s v y e → HitsH A s kb r b → HitsH A s kb ((k, a, v) :: r) (e && b)
end
end L2
set_option Elab.async false
set_option linter.all false
set_option maxRecDepth 100000
set_option maxHeartbeats 2000000
namespace L2
open PySem PySem.Spec PyProof.Rows
inductive HitsV (K : PySem.W.Frag) (H : Hp) (n : Nat) (kb : List (List Key × V)) : List (List Key × V) → Bool → Prop
  | nil : HitsV K H n kb [] true
  | miss {k : List Key} {v : V} {r : List (List Key × V)} : valV kb k = none → HitsV K H n kb ((k, v) :: r) false
  | hit {k : List Key} {v y : V} {r : List (List Key × V)} {e b : Bool} : valV kb k = some y → EqR K H n v y e → HitsV K H n kb r b → HitsV K H n kb ((k, v) :: r) (e && b)
end L2
set_option Elab.async false
set_option linter.all false
set_option maxRecDepth 100000
set_option maxHeartbeats 2000000
namespace L2
open PySem PySem.Spec PyProof.Rows
section
variable {prog : Program} {w : World} {κ : Type} [DecidableEq κ] {knd : HeapKind prog w κ} {A : Around} {E : Value → Shared → Prop}
variable {s : Shared}
end
end L2
set_option Elab.async false
set_option linter.all false
set_option maxRecDepth 100000
set_option maxHeartbeats 2000000
namespace L2
open PySem PySem.Spec PyProof.Rows
section
variable {prog : Program} {w : World} {A : Around} {E : Value → Shared → Prop} {s : Shared}
end
end L2
set_option Elab.async false
set_option linter.all false
set_option maxRecDepth 100000
set_option maxHeartbeats 2000000
namespace L2
open PySem PySem.Spec PyProof.Rows PySem.W
section
variable {prog : Program} {w : World} {A : Around} {E : Value → Shared → Prop} {s : Shared}
end
end L2
namespace L2
end L2
set_option Elab.async false
set_option linter.all false
set_option maxRecDepth 100000
set_option maxHeartbeats 2000000
namespace L2
open PySem PySem.Spec PyProof.Rows
section
variable {prog : Program} {w : World} {A : Around} {E : Value → Shared → Prop} {s : Shared}
end
end L2
set_option Elab.async false
set_option linter.all false
set_option maxRecDepth 100000
set_option maxHeartbeats 2000000
namespace L2
open PySem PySem.Spec PyProof.Rows
end L2
set_option Elab.async false
set_option linter.all false
set_option maxRecDepth 100000
set_option maxHeartbeats 2000000
namespace L2
open PySem PySem.Spec PyProof.Rows
def Its (z : Str) : It :=
  ⟨fun i _ => i < z.cps.size, fun i H x H' => H' = H ∧ ∃ c, z.cps[i]? = some c ∧ x = .str ⟨#[c]⟩, fun i _ => z.cps.size ≤ i⟩
theorem turn_str {P : Program} {w : World} {K : PySem.W.Frag} {tg : Expr} (it : Addr) (z : Str) (t : Tok) : Turn P w K tg (Its z) [it] it (fun i h => h.IsStrIter it "str_ascii_iterator" z t i) where
  mem := by simp
  obj := fun i h st b hb => by
    have e : b = it := by simpa using hb
    subst e
    obtain ⟨o, e, c, d⟩ := st
    exact ⟨o, e, fun v z => by rw [d] at z; cases z⟩
  keep := fun i h h' st k => by
    obtain ⟨o, e, r⟩ := st
    exact ⟨o, k it (by simp) o e, r⟩
  item := by
    intro X hP hw hK hc i pins s σ H E I hf st hg
    subst hP hw hK
    have hg : i < z.cps.size := hg
    obtain ⟨f0, f1, f2, f3, f4, f5⟩ := hf it (by simp)
    have hx : z.cps[i]? = some z.cps[i] := by simp [hg]
    refine wpAny_pyNext_ascii_item st (c := z.cps[i]) hx fun h' st' sb => ?_
    have I1 : Inv X pins σ H { s with heap := h', toks := s.toks + 1 } := I.turned (t' := s.toks + 1) (fun b o hb e => (sb.2 b hb).trans e) f0 f1 f3 f4 f5
    obtain ⟨o, e, c, d⟩ := id st'
    exact ⟨_, rfl, go_of (s := { s with heap := h', toks := s.toks + 1 }) e c d (by decide) ⟨.str ⟨#[z.cps[i]]⟩, H, I1, ⟨_, rfl⟩, ⟨rfl, _, hx, rfl⟩, st', fun b hb => (hf b hb).1⟩⟩
  done := by
    intro X hP hw hK hc i pins s σ H E I hf st hg
    subst hP hw hK
    have hg : z.cps.size ≤ i := hg
    obtain ⟨f0, f1, f2, f3, f4, f5⟩ := hf it (by simp)
    exact wpAny_pyNext_ascii_end (I.ok.hd hc) st (by simp [hg]) fun h' eb => ⟨rfl, I.turned (t' := s.toks) (fun b o hb e => eb b o hb e) f0 f1 f3 f4 f5⟩
  self := fun _ _ _ _ _ st h => wpAny_pyIter_striter_ascii st h
def iStr (tl : TE) : TI := fun σ H R => tl σ H fun x H1 => ∃ z, x = .str z ∧ z.cps.all (· < 128) = true ∧ R (Its z) H1
theorem pi_str {X : Cx} {tg l : Expr} {tl : TE} (hl : PE X l tl) : PI X tg l (iStr tl) := by
  intro pins s σ H R I h
  refine thn (hl pins s σ H _ I h) fun v s1 ⟨x, H1, I1, r1, q1⟩ => ?_
  obtain ⟨z, e, ha, q⟩ := q1
  subst e
  obtain ⟨t, rfl⟩ := r1
  refine wpAny_pyIter_ascii ha ?_
  refine ⟨s1.heap.objs.size, [s1.heap.objs.size], _, _, H1, rfl, I1.kept (t' := s1.toks) fun b o e => Heap.get?_push_of_some _ e, turn_str _ z t, ⟨_, Heap.get?_push_size _ rfl, rfl, rfl⟩, fun b hb => ?_, q⟩
  have e : b = s1.heap.objs.size := by simpa using hb
  subst e
  exact I1.fpOk (Nat.le_refl _) (I1.hok.fresh (Nat.le_refl _))
theorem lc_str {z : Str} {cap : List (Option Nat)} {g : TG} {tt : TT} {te : TE} {σ : St} {H : Hp} {Q : VK} (Pv : Nat → List V → Hp → Prop) (h0 : Pv 0 [] H) (hl : ∀ i ys H, i ≤ z.cps.size → Pv i ys H → ys.length < sizeLine)
    (hs : ∀ i c ys H, z.cps[i]? = some c → Pv i ys H → (∀ {P : Prop}, P → Nxt z.cps.size i P) → g (.str ⟨#[c]⟩) (capSt cap σ) H fun σ2 H2 => tt σ2 H2 fun b H3 => if b = true then te σ2 H3 fun v H4 => Nxt z.cps.size i (Pv (i + 1) (ys ++ [v]) H4) else Nxt z.cps.size i (Pv (i + 1) ys H3)) (hd : ∀ ys H, Pv z.cps.size ys H → ∀ p, H p = none → Q (.ref p) (upd H p (.lst ys))) :
    LcIn cap g tt te σ Q (Its z) H := by
  refine ⟨fun i m ys H => m = z.cps.size - i ∧ i ≤ z.cps.size ∧ Pv i ys H, ⟨z.cps.size, by simp, Nat.zero_le _, h0⟩, ?_⟩
  rintro i m ys H ⟨rfl, hi, p⟩
  have q := hl i ys H hi p
  by_cases hlt : i < z.cps.size
  · refine .inr ⟨hlt, q, fun x H' y => ?_⟩
    obtain ⟨e, c, y, ex⟩ := y
    subst e ex
    exact hs i c ys _ y p fun h => ⟨_, by omega, rfl, hlt, h⟩
  · have e : i = z.cps.size := by omega
    subst e
    exact .inl ⟨Nat.le_refl _, hd ys H p⟩
theorem for_str {z : Str} {g : TG} {tb : TS} {D : Ends} {σ : St} {H : Hp} (Pv : Nat → St → Hp → Prop) (h0 : Pv 0 σ H)
    (hs : ∀ i c σ H, z.cps[i]? = some c → Pv i σ H → g (.str ⟨#[c]⟩) σ H fun σ2 H2 => tb { D with nx := Pv (i + 1), ct := Pv (i + 1), bk := D.nx } σ2 H2) (hd : ∀ σ H, Pv z.cps.size σ H → D.nx σ H) :
    ∃ W : Nat → Nat → St → Hp → Prop, (∃ m, W 0 m σ H) ∧ ∀ i m σ H, W i m σ H →
      ((Its z).stop i H ∧ D.nx σ H) ∨ ((Its z).go i H ∧ ∃ N : St → Hp → Prop, (∀ σ' H', N σ' H' → ∃ m', m' < m ∧ W (i + 1) m' σ' H') ∧ ∀ x H', (Its z).yld i H x H' → g x σ H' fun σ2 H2 => tb { D with nx := N, ct := N, bk := D.nx } σ2 H2) := by
  refine ⟨fun i m σ H => m = z.cps.size - i ∧ i ≤ z.cps.size ∧ Pv i σ H, ⟨z.cps.size, by simp, Nat.zero_le _, h0⟩, ?_⟩
  rintro i m σ H ⟨rfl, hi, p⟩
  by_cases hlt : i < z.cps.size
  · refine .inr ⟨hlt, Pv (i + 1), fun σ' H' p' => ⟨z.cps.size - (i + 1), by omega, rfl, hlt, p'⟩, fun x H' y => ?_⟩
    obtain ⟨e, c, y, ex⟩ := y
    subst e ex
    exact hs i c σ _ y p
  · have e : i = z.cps.size := by omega
    subst e
    exact .inl ⟨Nat.le_refl _, hd σ H p⟩
def tCut (t u : TS) : TS := fun D σ H => ∃ J : St → Hp → Prop, t { D with nx := J } σ H ∧ ∀ σ' H', J σ' H' → u D σ' H'
theorem pss_cut {X : Cx} {st : Stmt} {rest : List Stmt} {t u : TS} (h1 : PS X st t) (h2 : PSs X rest u) : PSs X (st :: rest) (tCut t u) := by
  intro pins s σ H D I h
  obtain ⟨J, h, hJ⟩ := h
  refine wpAny_execs_cons (thn (h1 pins s σ H { D with nx := J } I h) fun f s1 q => ?_)
  cases f with
  | next =>
    obtain ⟨σ', H', I', q⟩ := q
    exact h2 pins s1 σ' H' D I' (hJ σ' H' q)
  | ret v => exact q
  | brk => exact q
  | cont => exact q
end L2
set_option Elab.async false
set_option linter.all false
set_option maxRecDepth 100000
set_option maxHeartbeats 2000000
namespace PySem
open Sem (wp)
namespace F
end F
section
variable {prog : Program} {w : World} {A : Around} {E : Value → Shared → Prop} {h : Heap} {g : Array GenState} {d : Drawn} {t : Nat} {os : OsState} {a : Addr} {vs : Array Value}
end
end PySem
namespace L2
open PySem PySem.Spec PyProof.Rows
section
variable {prog : Program} {w : World} {A : Around} {E : Value → Shared → Prop} {s : Shared}
end
end L2
set_option Elab.async false
set_option linter.all false
set_option maxRecDepth 100000
set_option maxHeartbeats 2000000
namespace L2
open PySem PySem.Spec PyProof.Rows
theorem call_all {X : Cx} (hc : X.calm = true) : CallR X (.builtin "all") (fun xs H Q => ∃ (p : Addr) (bs : List Bool), xs = [.ref p] ∧ SqL X.K H p (bs.map V.bl) ∧ Q (.bl (bs.all id)) H) := by
  intro pins s σ H xs us Q I r h
  obtain ⟨p, bs, rfl, hq, q⟩ := h
  obtain ⟨u, rfl, rx⟩ := vals1 r
  cases rx
  obtain ⟨its, r', pl, hz⟩ := I.list hq
  have hlen := r'.length
  rw [List.length_map] at hlen
  have hps : p < s.heap.objs.size := by obtain ⟨o, n, ho, _⟩ := pl; exact Heap.lt_size ho
  refine call_all_walk (wpAny_pyIter_list pl.isList ?_)
  refine ⟨s.heap.objs.size, _, _, _, _, _, fun i => bs.getD i true, rfl, Walks.list (A := X.A.in1) (I.ok.hd hc) s.heap.objs.size p (Nat.ne_of_lt hps) its.toArray, ⟨⟨_, Heap.get?_push_size _ rfl, rfl, rfl⟩, pl.isList.at fun o x => Heap.get?_push_of_some _ x⟩, ?_, ?_⟩
  · intro i v s' Q' E' hP hQ'
    have hv : its.toArray[i]? = some v := hP
    have hv2 : its[i]? = some v := by simpa using hv
    have hi : i < bs.length := by
      have := (List.getElem?_eq_some_iff.mp hv2).1
      omega
    have hb : (bs.map V.bl)[i]? = some (.bl bs[i]) := by rw [List.getElem?_map, List.getElem?_eq_getElem hi]; rfl
    obtain ⟨u, hu, ru⟩ := r'.get hb
    rw [hv2] at hu
    cases hu
    cases ru
    have e : bs.getD i true = bs[i] := by rw [List.getD_eq_getElem?_getD, List.getElem?_eq_getElem hi]; rfl
    have hQ2 : Q' (bs.getD i true) s' := hQ'
    rw [e] at hQ2
    exact wpAny_pure hQ2
  · intro h' tk k
    have I2 : Inv X pins σ H { s with heap := h', toks := tk } := by
      refine I.turnedL (fp := [s.heap.objs.size]) (t' := tk) (fun b o hb x => k b o (by simpa using hb) (Heap.get?_push_of_some _ x)) fun b hb => ?_
      have e : b = s.heap.objs.size := by simpa using hb
      subst e
      exact I.fpOk (Nat.le_refl _) (I.hok.fresh (Nat.le_refl _))
    have e : (List.range its.toArray.size).all (fun i => bs.getD i true) = bs.all id := by
      have e1 : its.toArray.size = bs.length := by simp; omega
      rw [e1]
      apply Bool.eq_iff_iff.mpr
      rw [List.all_eq_true, List.all_eq_true]
      constructor
      · intro hh b hb
        obtain ⟨i, hi, e⟩ := List.getElem_of_mem hb
        have := hh i (List.mem_range.mpr hi)
        rw [List.getD_eq_getElem?_getD, List.getElem?_eq_getElem hi] at this
        rw [← e]; exact this
      · intro hh i hi
        have hi := List.mem_range.mp hi
        rw [List.getD_eq_getElem?_getD, List.getElem?_eq_getElem hi]
        exact hh _ (List.getElem_mem hi)
    rw [e]
    exact ⟨.bl (bs.all id), H, I2, rfl, q⟩
end L2
set_option Elab.async false
set_option linter.all false
set_option maxRecDepth 100000
set_option maxHeartbeats 2000000
namespace L2
open PySem PySem.Spec PyProof.Rows
end L2
set_option Elab.async false
set_option linter.all false
set_option maxRecDepth 100000
set_option maxHeartbeats 4000000
namespace L2
open PySem PySem.Spec PyProof.Rows
section
variable {X : Cx}
end
end L2
set_option Elab.async false
set_option linter.all false
set_option maxRecDepth 100000
set_option maxHeartbeats 2000000
namespace L2
open PySem PySem.Spec PyProof.Rows
section
variable {M : Model} {A : Around} {E : Value → Shared → Prop} {s : Shared}
structure Lft (l : List Env) (e : Addr) (x : List Addr) (h h' : Heap) : Prop where
  keep : ∀ b o, b ∉ l.filterMap (·.frame) → b ≠ e → b ∉ x → h.get? b = some o → h'.get? b = some o
  slot : ∀ b o, b ∈ l.filterMap (·.frame) → h.get? b = some o → ∃ sl, h'.get? b = some { o with slots := sl }
end
section
variable {P : Program} {w : World} {K : PySem.W.Frag} {mg : Str → Option Value} {base : Heap} {N : List Str} {qual : Str} {scope : Scope} {f : Addr} {cd : Value} {A : Around} {outer : List Env} {s0 : Shared} {H0 : Hp} {E : XK}
end
structure EC (K : PySem.W.Frag) (C : Addr) : Prop where
  ex : ∃ nm q N bs bm hdct sn sub ab col dd k0 k1 k2 k3 k5 B newId initId bmB mN, ExcBaseFacts B newId initId bmB ∧ bm.contains (.type "BaseException") = true ∧ mN ("__init__" : Str) = none ∧
    ∀ h, K.In h → h.get? C = some (excClassObj nm q C N bs bm hdct sn sub ab col dd k0 k1 k2 k3 k5 newId) ∧ h.Ns N mN ∧ OwnTail h bmB bm
section
variable {X : Cx} {pins0 pins : List (Addr × Obj)} {Cat : St → Addr → Hp → Prop} {σ : St} {H : Hp} {s : Shared}
end
section
variable {M : Model} {A : Around} {E : Value → Shared → Prop} {s : Shared}
end
structure Und (K : PySem.W.Frag) (C P : Addr) : Prop where
  ex : ∃ nm q N bs bm hdct sn sub ab col dd k0 k1 k2 k3 k5 newId nm' q' N' bs' bm' hdct' sn' sub' ab' col' dd' k0' k1' k2' k3' k5' newId', (Value.ref C :: bm).contains (.ref P) = true ∧ bm'.contains (.type "BaseException") = true ∧
    ∀ h, K.In h → h.get? C = some (excClassObj nm q C N bs bm hdct sn sub ab col dd k0 k1 k2 k3 k5 newId) ∧ h.get? P = some (excClassObj nm' q' P N' bs' bm' hdct' sn' sub' ab' col' dd' k0' k1' k2' k3' k5' newId')
section
variable {X : Cx} {pins : List (Addr × Obj)} {σ : St} {H : Hp} {s : Shared}
end
section
variable {M : Model} {A : Around} {E : Value → Shared → Prop} {s : Shared}
end
section
variable {X : Cx} {pins : List (Addr × Obj)} {σ : St} {H : Hp} {s : Shared}
end
end L2
set_option Elab.async false
set_option linter.all false
set_option maxRecDepth 100000
set_option maxHeartbeats 2000000
namespace L2
open PySem PySem.Spec PyProof.Rows
structure Lkp (M : Model) (h : Heap) (C : Addr) : Prop where
  ga : PySem.W.Looks M h (typeLookup (.ref C) "__getattribute__") (some (.builtin "BaseException.__getattribute__"))
  no : PySem.W.Looks M h (typeLookup (.ref C) "__getattr__") none
  cls : PySem.W.Looks M h (typeLookup (.ref C) "__class__") (some (.builtin "object.__class__"))
  be : PySem.W.Looks M h (isSubtype (.ref C) (.type "BaseException")) true
  obj : PySem.W.Looks M h (isSubtype (.ref C) (.type (".".intercalate ("object.__class__".cutAt '.').dropLast))) true
section
variable {prog : Program} {w : World} {A : Around} {E : Value → Shared → Prop} {h : Heap} {g : Array GenState} {d : Drawn} {t : Nat} {os : OsState} {a C : Addr} {o : Obj}
end
structure ExC (K : PySem.W.Frag) (C : Addr) : Prop where
  lk : ∀ (M : Model) (h : Heap), K.In h → Lkp M h C
  cl : (PySem.W.clsIn K C).isSome = true
  sl : ∃ B, Slot B "__getattribute__" "BaseException.__getattribute__"
end L2
set_option Elab.async false
set_option linter.all false
set_option maxRecDepth 100000
set_option maxHeartbeats 2000000
namespace L2
open PySem PySem.Spec PyProof.Rows
theorem vals_intsT : ∀ {ns : List Int} {its : List Value}, Vals (ns.map V.int) its → ∃ ts : List (Int × Tok), its = ts.map (fun p => Value.int p.1 p.2) ∧ ts.map (·.1) = ns
  | [], _, .nil => ⟨[], rfl, rfl⟩
  | i :: r, _, .cons h t => by
    obtain ⟨k, rfl⟩ := (show ∃ k, _ = Value.int i k from h)
    obtain ⟨ts, e1, e2⟩ := vals_intsT t
    exact ⟨(i, k) :: ts, by rw [e1]; rfl, by rw [List.map_cons, e2]⟩
theorem call_sum {X : Cx} (hc : X.calm = true) : CallR X (.builtin "sum") (fun xs H Q => ∃ (p : Addr) (ns : List Int), xs = [.ref p] ∧ SqL X.K H p (ns.map V.int) ∧ Q (.int ns.sum) H) := by
  intro pins s σ H xs us Q I r h
  obtain ⟨p, ns, rfl, hq, q⟩ := h
  obtain ⟨u, rfl, rx⟩ := vals1 r
  cases rx
  obtain ⟨its, r', pl, hz⟩ := I.list hq
  obtain ⟨ts, e1, e2⟩ := vals_intsT r'
  subst e1
  have el : (ts.map (fun p => Value.int p.1 p.2)).toArray = intItems ts.toArray := by unfold intItems; simp
  refine sum_intListG (xs := ts.toArray) (I.ok.hd hc) (by rw [← el]; exact pl.isList) fun h' tk t' hk => ?_
  have e : preSum (numAt ts.toArray) ts.toArray.size = ns.sum := by
    rw [preSum_eq, List.take_of_length_le (by simp), ← e2]
  rw [e]
  exact ⟨.int ns.sum, H, I.kept (t' := tk) hk, ⟨t', rfl⟩, q⟩
end L2
namespace L2
open PySem PySem.Spec PyProof.Rows
end L2
set_option Elab.async false
set_option linter.all false
set_option maxRecDepth 100000
set_option maxHeartbeats 2000000
namespace L2
open PySem PySem.Spec PyProof.Rows
section
variable {K : PySem.W.Frag} {C Pa N N' : Addr} {nm nm' q q' : Str} {bs bs' sub sub' : List Value} {hdct hdct' : Bool} {sn sn' : List Str} {ab ab' : Bool} {col col' : Option Bool} {dd dd' : Option Addr} {k0 k1 k2 k3 k5 k0' k1' k2' k3' k5' oc oc' : Option Value}
  {c1 c2 : Value} {od od' : Option Addr} {es es' : Array DictEntry} {n n' : Nat} {sl sl' : Array (Option Value)}
end
end L2
namespace L2
open PySem
end L2
set_option Elab.async false
set_option linter.all false
set_option maxRecDepth 100000
set_option maxHeartbeats 2000000
namespace L2
open PySem PySem.Spec PyProof.Rows
end L2
set_option Elab.async false
set_option linter.all false
set_option maxRecDepth 100000
set_option maxHeartbeats 2000000
namespace L2
open PySem PySem.Spec PyProof.Rows
section
variable {X : Cx}
end
end L2
set_option Elab.async false
set_option linter.all false
set_option maxRecDepth 100000
set_option maxHeartbeats 2000000
namespace L2
open PySem PySem.Spec PyProof.Rows
section
variable {X : Cx}
theorem mt_str_startswith : MtR X "str.startswith" (fun x vs H Q => ∃ z y, x = .str z ∧ vs = [.str y] ∧ Q (.bl (Txt.startswith z y)) H) := by
  intro pins s σ H x vs v us Q I rx rv h
  obtain ⟨z, y, rfl, rfl, q⟩ := h
  obtain ⟨t, rfl⟩ := rx
  obtain ⟨u, rfl, ru⟩ := vals1 rv
  obtain ⟨t2, rfl⟩ := ru
  exact PySem.SC.startswith ⟨.bl _, H, I, rfl, q⟩
theorem mt_str_endswith : MtR X "str.endswith" (fun x vs H Q => ∃ z y, x = .str z ∧ vs = [.str y] ∧ Q (.bl (Txt.endswith z y)) H) := by
  intro pins s σ H x vs v us Q I rx rv h
  obtain ⟨z, y, rfl, rfl, q⟩ := h
  obtain ⟨t, rfl⟩ := rx
  obtain ⟨u, rfl, ru⟩ := vals1 rv
  obtain ⟨t2, rfl⟩ := ru
  exact PySem.SC.endswith ⟨.bl _, H, I, rfl, q⟩
theorem mt_str_count : MtR X "str.count" (fun x vs H Q => ∃ z y, x = .str z ∧ vs = [.str y] ∧ Q (.int (Txt.count z y)) H) := by
  intro pins s σ H x vs v us Q I rx rv h
  obtain ⟨z, y, rfl, rfl, q⟩ := h
  obtain ⟨t, rfl⟩ := rx
  obtain ⟨u, rfl, ru⟩ := vals1 rv
  obtain ⟨t2, rfl⟩ := ru
  exact PySem.SC.count ⟨.int _, H, I.tok _, ⟨_, rfl⟩, q⟩
theorem mt_str_removeprefix : MtR X "str.removeprefix" (fun x vs H Q => ∃ z y, x = .str z ∧ vs = [.str y] ∧ z.length ≤ sizeLine ∧ Q (.str (Txt.removeprefix z y)) H) := by
  intro pins s σ H x vs v us Q I rx rv h
  obtain ⟨z, y, rfl, rfl, hz, q⟩ := h
  obtain ⟨t, rfl⟩ := rx
  obtain ⟨u, rfl, ru⟩ := vals1 rv
  obtain ⟨t2, rfl⟩ := ru
  exact PySem.SC.removeprefix (fun t' k => ⟨.str _, H, I.tok _, ⟨_, rfl⟩, q⟩) hz
theorem vals_strs : ∀ {zs : List Str} {its : List Value}, Vals (zs.map V.str) its → ∃ l : List (Str × Tok), its = strValues l ∧ l.map (·.1) = zs
  | [], _, .nil => ⟨[], rfl, rfl⟩
  | z :: r, _, .cons h t => by
    obtain ⟨k, rfl⟩ := (show ∃ k, _ = Value.str z k from h)
    obtain ⟨l, e1, e2⟩ := vals_strs t
    exact ⟨(z, k) :: l, by rw [e1]; rfl, by rw [List.map_cons, e2]⟩
def cutS (z : Str) (lo hi : Option Int) : Str := if (Builtin.Str.strSliceIndices lo hi 1 z.length).length = z.length then z else ⟨((Builtin.Str.strSliceIndices lo hi 1 z.length).filterMap (z.cps[·]?)).toArray⟩
theorem sl_str : SlR X (fun x lo hi H Q => ∃ z, x = .str z ∧ (cutS z lo hi).length ≤ sizeLine ∧ Q (.str (cutS z lo hi)) H) := by
  intro pins s σ H x v vl vu lo hi sl Q I rx hs pl pu h
  obtain ⟨z, rfl, hz, q⟩ := h
  obtain ⟨t, rfl⟩ := rx
  refine ⟨"str", _, F.slot_str_getitem.lookup, typeIs_str _ z t, ?_⟩
  obtain ⟨l, hl1, hl2⟩ : ∃ l : Option (Int × Tok), partValue l = vl ∧ l.map (·.1) = lo := by
    cases pl with
    | none => exact ⟨none, rfl, rfl⟩
    | int i t => exact ⟨some (i, t), rfl, rfl⟩
  obtain ⟨u, hu1, hu2⟩ : ∃ u : Option (Int × Tok), partValue u = vu ∧ u.map (·.1) = hi := by
    cases pu with
    | none => exact ⟨none, rfl, rfl⟩
    | int i t => exact ⟨some (i, t), rfl, rfl⟩
  obtain ⟨o, ho, hc, hd⟩ := hs
  refine wpAny_getItem_str_slice (l := l) (u := u) (st := none) ⟨o, ho, hc, by rw [hd, hl1, hu1]; rfl⟩ rfl ?_
  have ep : slicePicked z l u none = Builtin.Str.strSliceIndices lo hi 1 z.length := by unfold slicePicked; rw [hl2, hu2]; rfl
  unfold sliceMade
  rw [ep]
  unfold cutS at hz q
  by_cases c : (Builtin.Str.strSliceIndices lo hi 1 z.length).length = z.length
  · rw [if_pos c] at hz q
    rw [if_pos (by simp [c])]
    exact ⟨.str z, H, I, ⟨t, rfl⟩, q⟩
  · rw [if_neg c] at hz q
    rw [if_neg (by simp [c])]
    exact ⟨hz, .str _, H, I.tok _, ⟨_, rfl⟩, q⟩
theorem emp_app (x : Str) : Str.empty ++ x = x := by
  cases x with | mk c => show Str.mk (#[] ++ c) = _; simp
theorem pe_f3 {e : Expr} {te : TE} {a b : Str} {ja jb : Nat} {pa pb pf pos : Pos} (he : PE X e te) (ha : a.length ≤ sizeLine := by decide) :
    PE X (.JoinedStr [.Constant (.str a) ja pa, .FormattedValue e (-1) none pf, .Constant (.str b) jb pb] pos) (fun σ H Q => te σ H fun x H1 => ∃ z, x = .str z ∧ z.length ≤ sizeLine ∧ (a ++ z).length ≤ sizeLine ∧ (a ++ z ++ b).length ≤ sizeLine ∧ Q (.str (a ++ z ++ b)) H1) := by
  intro pins s σ H Q I h
  refine wpAny_JoinedStr ?_
  show wpAny _ _ (eval (.Constant (.str a) ja pa) X.env) _ _ s
  refine thn (pe_str pins s σ H (fun x H1 => x = .str a ∧ H1 = H) I ⟨rfl, rfl⟩) fun v1 s1 ⟨x1, H1, I1, r1, ⟨e1, e2⟩⟩ => ?_
  subst e1 e2
  obtain ⟨t1, rfl⟩ := r1
  refine ⟨a, t1, rfl, by rw [emp_app]; exact ha, ?_⟩
  rw [emp_app]
  show wpAny _ _ (eval (.FormattedValue e (-1) none pf) X.env) _ _ s1
  refine wpAny_FormattedValue_plain (thn (he pins s1 σ H1 _ I1 h) fun v2 s2 ⟨x2, H2, I2, r2, z, ez, hz, haz, hazb, q⟩ => ?_)
  subst ez
  obtain ⟨t2, rfl⟩ := r2
  have fin : ∀ s3 : Shared, Inv X pins σ H2 s3 → ∀ t3, ∃ y t, Value.str z t3 = .str y t ∧ (a ++ y).length ≤ sizeLine ∧ Joins (model X.prog X.w) X.A X.xe [eval (.Constant (.str b) jb pb) X.env] (a ++ y) (fun out s₁ => out.length ≤ sizeLine ∧ EP X pins σ Q (.str out s₁.toks) { s₁ with toks := s₁.toks + 1 }) s3 := fun s3 I3 t3 => by
    refine ⟨z, t3, rfl, haz, ?_⟩
    show wpAny _ _ (eval (.Constant (.str b) jb pb) X.env) _ _ s3
    refine thn (pe_str pins s3 σ H2 (fun x H1 => x = .str b ∧ H1 = H2) I3 ⟨rfl, rfl⟩) fun v4 s4 ⟨x4, H4, I4, r4, ⟨e3, e4⟩⟩ => ?_
    subst e3 e4
    obtain ⟨t4, rfl⟩ := r4
    exact ⟨b, t4, rfl, hazb, hazb, .str _, H4, I4.tok _, ⟨_, rfl⟩, q⟩
  exact wpAny_formatField_str (fin _ I2 t2) (fin _ (I2.tok _) _) hz
theorem op_rep_str : OpR X (binaryOp .Mult) (fun x y H Q => ∃ z i, x = .str z ∧ y = .int i ∧ MulOk z i ∧ Q (.str (Txt.mul z i)) H) := by
  intro pins s σ H x y v u Q I rx ry h
  obtain ⟨z, i, rfl, rfl, hm, q⟩ := h
  obtain ⟨t, rfl⟩ := rx
  obtain ⟨t2, rfl⟩ := ry
  exact PySem.SB.mul hm fun t' k => ⟨.str _, H, I.tok _, ⟨_, rfl⟩, q⟩
theorem call_int_text : CallR X (.type "int") (fun xs H Q => ∃ z n, xs = [.str z] ∧ PySem.intText? z = some n ∧ z.length ≤ 640 ∧ Q (.int n) H) := by
  intro pins s σ H xs us Q I r h
  obtain ⟨z, n, rfl, hn, hl, q⟩ := h
  obtain ⟨u, rfl, ru⟩ := vals1 r
  obtain ⟨t, rfl⟩ := ru
  exact PySem.W.KIN.call_text hn hl ⟨.int n, H, I.tok _, ⟨_, rfl⟩, q⟩
theorem ps_set2 {i j : Nat} {x y : Str} {e : Expr} {te : TE} {px py pos : Pos} (hN : X.N.Nodup) (hi : X.N[i]? = some x) (hj : X.N[j]? = some y) (hx : Loc X.env.scope x) (hy : Loc X.env.scope y) (he : PE X e te)
    (hs : swapsWithSole [.Name x px, .Name y py] e pos.line X.env = pure false := by rfl) (hw : swappedStores [.Name x px, .Name y py] e X.env = pure none := by rfl)
    (hf : X.fn x = true ∨ X.env.scope.names.lookup x = some .local := by first | exact .inl rfl | exact .inr rfl | assumption) (hf' : X.fn y = true ∨ X.env.scope.names.lookup y = some .local := by first | exact .inl rfl | exact .inr rfl | assumption) :
    PS X (.Assign [.Name x px, .Name y py] e pos) (fun D σ H => te σ H fun v H1 => D.nx ((σ.set i (some v)).set j (some v)) H1) := by
  intro pins s σ H D I h
  refine wpAny_Assign_stores (thn (he pins s σ H _ I h) fun v s1 ⟨x1, H1, I1, r1, q1⟩ => ?_) hs hw
  show wpAny _ _ (assignAll v [assign (.Name x px) X.env, assign (.Name y py) X.env]) _ _ s1
  unfold assignAll
  refine wpAny_bind (wpAny_holding (wpAny_assign_Name (store_ok I1 hN hi hx r1 (fun s2 I2 => ?_) hf)))
  exact wpAny_assign_Name (store_ok I2 hN hj hy r1 (fun s3 I3 => ⟨_, H1, I3, q1⟩) hf')
end
end L2
set_option Elab.async false
set_option linter.all false
set_option maxRecDepth 100000
set_option maxHeartbeats 2000000
namespace L2
open PySem PySem.Spec PyProof.Rows
theorem lri_no_len : typeLookup (.type "list_reverseiterator") "__len__" = pure none := by rw [typeLookup_type, builtinLookup_eq_fast]; kernel_rfl
theorem lri_hint : typeLookup (.type "list_reverseiterator") "__length_hint__" = pure (some (.builtin "list_reverseiterator.__length_hint__")) := by rw [typeLookup_type, builtinLookup_eq_fast]; kernel_rfl
theorem lri_sub : isSubtype (.type "list_reverseiterator") (.type "list_reverseiterator") = pure true := by rw [isSubtype_type]; kernel_rfl
section
variable {prog : Program} {w : World} {A : Around} {E : Value → Shared → Prop} {s : Shared} {I : Addr} {fp wr : List Addr} {G : Array GenState → Array GenState → Prop} {n : Nat} {P : Nat → Value → Prop} {St : Nat → Shared → Prop}
theorem collect_rev {Q : List Value → Shared → Prop} (W : WalksS prog w A.in1 I fp wr G n P St) (hT : ∀ i s, St i s → s.TypeIs (.ref I) "list_reverseiterator") (hst : St 0 s) (hfp : ∀ b ∈ fp, b < s.heap.objs.size) (hI : I ∈ fp)
    (hQ : ∀ s' acc, Moved wr G s s' → ItemsOf P acc n → Q acc.toList s') (hn : n ≤ sizeLine) : wpAny (model prog w) A (collect (.ref I)) Q E s := by
  have hSf : s.heap.objs.size ∉ fp := fun hm => Nat.lt_irrefl _ (hfp _ hm)
  have hSI : s.heap.objs.size ≠ I := fun e => hSf (e ▸ hI)
  unfold collect
  refine wpAny_bind (wpAny_runValue (codeAny_builtin F.entry_proto_collect ?_))
  rw [Around.under_plainId F.plain_proto_collect _]
  show wpAny _ A.in1 (newList [] >>= fun l => again (.builtin "list.__iadd__" ⟨[l, .ref I], []⟩)) _ _ s
  refine wpAny_bind (wpAny_newObj_type ?_)
  refine wpAny_pure ⟨plainId_quiet F.plain_list_iadd _, codeAny_builtin F.entry_list_iadd ?_⟩
  rw [Around.under_plainId F.plain_list_iadd _]
  have hst₁ := W.frame 0 s (s.heap.push { cls := .type "list", data := .seq ([] : List Value).toArray }) s.toks hst (Nat.le_refl _) fun b _ o e => Heap.get?_push_of_some _ e
  show wpAny _ A.in1 (Builtin.List.listExtendWith (.ref s.heap.objs.size) (.ref I) (.ref s.heap.objs.size)) _ _ _
  unfold Builtin.List.listExtendWith
  refine wpAny_bind (wpAny_typeOf (hT 0 _ hst₁) ?_)
  have h1 : Builtin.List.listSameRef (.ref s.heap.objs.size) (.ref I) = false := by simp [Builtin.List.listSameRef, hSI]
  have h2 : (Value.type "list_reverseiterator" == Value.type "list") = false := by decide
  have h3 : (Value.type "list_reverseiterator" == Value.type "tuple") = false := by decide
  simp only [h1, h2, h3, Bool.or_false, Bool.false_eq_true, if_false]
  refine wpAny_bind (W.self 0 _ _ _ hst₁ ?_)
  refine wpAny_bind (wpAny_holding ?_)
  unfold Builtin.List.listLengthHint
  refine wpAny_bind (wpAny_specialOf (hT 0 _ hst₁) lri_no_len ?_)
  show wpAny _ A.in1 (specialOf (Value.ref I) (Str.ofString "__length_hint__") >>= _) _ _ _
  refine wpAny_bind (wpAny_specialOf (hT 0 _ hst₁) lri_hint ?_)
  have hsp : splitId "list_reverseiterator.__length_hint__" = some ("list_reverseiterator", "__length_hint__") := by decide +kernel
  simp only [hsp]
  refine wpAny_bind (wpAny_isInstance (hT 0 _ hst₁) lri_sub ?_)
  refine wpAny_ite ?_
  split
  · rename_i h; exact absurd h (by decide)
  refine wpAny_ite ?_
  split
  case isFalse h => exact absurd (by decide +kernel) h
  refine wpAny_ite ?_
  split
  · rename_i h; exact absurd h (by decide)
  refine wpAny_pure ?_
  simp only [Bool.false_or]
  refine wpAny_ite ?_
  split
  case isTrue h => exact absurd h (by decide +kernel)
  have hS₁ : (s.heap.push { cls := .type "list", data := .seq ([] : List Value).toArray }).get? s.heap.objs.size = some { cls := .type "list", data := .seq ([] : List Value).toArray } := Heap.get?_push_size _ rfl
  refine wpAny_pure ⟨plainId_quiet F.plain_extend_loop _, codeAny_extend_loopS W hn _ hSf _ n 0 _ _ _ rfl (Nat.zero_le _) hst₁ hS₁ (ItemsOf.nil P) fun s' acc' c' hm hS' hacc => ?_⟩
  show wpAny _ A (load s.heap.objs.size >>= _) _ _ s'
  refine wpAny_bind (wpAny_load hS' ?_)
  refine wpAny_pure (hQ s' acc' (Moved.drop_new (o := { cls := .type "list", data := .seq ([] : List Value).toArray }) (tk := s.toks) hm (Nat.le_refl _)) hacc)
end
end L2
set_option Elab.async false
set_option linter.all false
set_option maxRecDepth 100000
set_option maxHeartbeats 1000000
namespace L2
open PySem PySem.Spec PyProof.Rows
section
variable {X : Cx} {pos : Pos} {t u : TS}
end
end L2
set_option Elab.async false
set_option linter.all false
set_option maxRecDepth 100000
set_option maxHeartbeats 2000000
namespace L2
open PySem PySem.Spec PyProof.Rows
section
variable {X : Cx}
end
end L2
set_option Elab.async false
set_option linter.all false
set_option maxRecDepth 100000
set_option maxHeartbeats 1000000
namespace L2
open PySem PySem.Spec PyProof.Rows
section
variable {X : Cx}
end
end L2
set_option Elab.async false
set_option linter.all false
set_option maxRecDepth 100000
set_option maxHeartbeats 2000000
namespace PySem
open Builtin Builtin.Str Builtin.Int
section
variable {prog : Program} {w : World} {A : Around} {E : Value → Shared → Prop} {s : Shared} {x : Str} {t : Tok} {Q : Value → Shared → Prop}
  {I : Addr} {fp wr : List Addr} {G : Array GenState → Array GenState → Prop} {n : Nat} {P : Nat → Value → Prop} {St : Nat → Shared → Prop}
theorem SC.joinRev (W : WalksS prog w A.in1.in1 I fp wr G n P St) (hT : ∀ i s, St i s → s.TypeIs (.ref I) "list_reverseiterator") (hst : St 0 s) (hfp : ∀ b ∈ fp, b < s.heap.objs.size) (hI : I ∈ fp)
    (hstr : ∀ i v, P i v → ∃ y u, v = Value.str y u)
    (hq : ∀ s' (l : List (Str × Tok)), Moved wr G s s' → ItemsOf P (strValues l).toArray n → JoinOk x (l.map (·.1)) = true ∧ ∀ t' k, Q (.str (Txt.join x (l.map (·.1))) t') { s' with toks := k })
    (hsz : n ≤ sizeLine := by size_fits) :
    wpAny (model prog w) A (call (.builtin "str.join") [.str x t, .ref I]) Q E s := by
  refine wpAny_call (codeAny_call_builtin F.slot_str_join.plain F.entry_str_join (F.slot_str_join.check _ _ _ _ _ _ _ _ (typeIs_str _ _ _) (F.args_str_join_2 _ _) ?_))
  rw [join_tree_other]
  refine wpAny_bind (wpAny_typeOf (hT 0 s hst) ?_)
  show wpAny _ A.in1 ((pyIter (.ref I)).tryCatch _ >>= fun it => collect it >>= fun items => joinTail x items) _ _ s
  refine wpAny_bind (wpAny_tryCatch (W.of_in1.self 0 s _ _ hst ?_))
  refine wpAny_bind (L2.collect_rev W hT hst hfp hI (fun s' acc hm hacc => ?_) hsz)
  obtain ⟨l, hl⟩ := exists_strValues acc.toList fun v hv => by
    obtain ⟨j, hj, rfl⟩ := Array.mem_iff_getElem.mp (Array.mem_toList_iff.mp hv)
    exact hstr j _ (hacc.2 j _ (Array.getElem?_eq_getElem hj))
  rw [← hl]
  have hacc' : ItemsOf P (strValues l).toArray n := by rw [hl]; simpa using hacc
  obtain ⟨hok, hpost⟩ := hq s' l hm hacc'
  unfold JoinOk at hok
  rw [Bool.not_eq_true'] at hok
  have g : Gives (joinTail x (strValues l)) (joinMade x l) := by
    have g0 := gives_joinTail x l hok
    cases l with
    | nil => exact g0
    | cons p r => cases r with
      | nil => exact g0
      | cons q r' => exact g0
  exact g prog w A (wants Q E) s' (post_join l ⟨joinFit_length hok, hpost⟩)
end
end PySem
namespace L2
open PySem PySem.Spec PyProof.Rows
section
variable {X : Cx}
theorem boot_reversed : bootBuiltins "reversed" = some (.type "reversed") := by decide +kernel
theorem pe_joinrev {e : Expr} {te : TE} {z : Str} {kz : Nat} {pz p0 rpos apos cpos : Pos} (hc : X.calm = true) (hg : Gl X "reversed") (hm : X.mg "reversed" = none) (he : PE X e te)
    (hbase : attributeBase (.Constant (.str z) kz pz) "join" X.env (eval (.Constant (.str z) kz pz) X.env) = eval (.Constant (.str z) kz pz) X.env := by rfl)
    (hline : (apos.endLine == cpos.line) = true := by rfl) (hs : starEach [e] X.env = [(false, eval e X.env)] := by rfl) :
    PE X (.Call (.Attribute (.Constant (.str z) kz pz) "join" apos) [.Call (.Name "reversed" p0) [e] [] rpos] [] cpos) (fun σ H Q => te σ H fun x H1 => ∃ (p : Addr) (zs : List Str), x = .ref p ∧ SqL X.K H1 p (zs.map V.str) ∧ JoinOk z zs.reverse = true ∧ Q (.str (Txt.join z zs.reverse)) H1) := by
  intro pins s σ H Q I h
  refine wpAny_Call_method_late hbase rfl hline rfl (Calls.Constant_str ?_)
  refine ⟨"str", "str.join", PySem.F.plainAttrs_str, PySem.F.slot_str_join, PySem.F.type_str_join, typeIs_str _ _ _, (fun a q => nomatch q), ?_⟩
  refine Calls.callWith_builtin rfl (Calls.evalArgs_plain ?_)
  show wpAny _ _ (spliced ((false, eval (.Call (.Name "reversed" p0) [e] [] rpos) X.env) :: backTo cpos (starEach [] X.env))) _ _ _
  have I0 : Inv X pins σ H { s with toks := s.toks + 1 } := I.tok _
  refine Calls.spliced_cons (Call_ (ld_blt I0 hg hm boot_reversed (PyProof.Rows.callWith_type1 (thn (pa_cons he pa_nil hs rpos pins _ σ H (fun vs H1 => ∃ (p : Addr) (zs : List Str), vs = [.ref p] ∧ SqL X.K H1 p (zs.map V.str) ∧ JoinOk z zs.reverse = true ∧ Q (.str (Txt.join z zs.reverse)) H1) I0 ?_) fun us s1 ⟨vs, H1, I1, r1, p, zs, ev, hq, hok, q⟩ => ?_) hs rfl)))
  · show te σ H fun x H1 => ∃ (p : Addr) (zs : List Str), [x] = [V.ref p] ∧ _
    simpa using h
  subst ev
  obtain ⟨u, rfl, ru⟩ := vals1 r1
  cases ru
  obtain ⟨its, r, pl, hz⟩ := I1.list hq
  obtain ⟨l, rfl, e2⟩ := vals_strs r
  refine call_reversed_list pl.isList ?_
  refine Calls.spliced_nil ?_
  have hlp : p < s1.heap.objs.size := by
    obtain ⟨o, ho, _⟩ := pl.isList
    exact Heap.lt_size ho
  have I2 : Inv X pins σ H1 { s1 with heap := s1.heap.push (revObj p (((strValues l).toArray.size : Int) - 1)) } := I1.kept (t' := s1.toks) fun b o e => Heap.get?_push_of_some _ e
  obtain ⟨f0, f1, f2, f3, f4, f5⟩ := I1.fpOk (Nat.le_refl _) (I1.hok.fresh (Nat.le_refl s1.heap.objs.size))
  have hh : X.A.handled = none := I1.ok.hd hc
  have W := (Walks.listRev (prog := X.prog) (w := X.w) (A := X.A.in1.in1) hh s1.heap.objs.size p (Nat.ne_of_lt hlp) (strValues l).toArray).toS
  have hlen : (strValues l).toArray.size = zs.length := by have := r.length; simpa using this.symm
  refine SC.joinRev W (fun i s' st => ?_) ⟨Nat.zero_le _, ⟨_, Heap.get?_push_size _ rfl, rfl, by rw [show (((strValues l).toArray.size : Int) - 1 - ((0 : Nat) : Int)) = ((strValues l).toArray.size : Int) - 1 by omega]; rfl⟩, pl.isList.push _⟩ (fun b hb => ?_) (by simp) (fun i v hv => ?_) (fun s' l' mv items => ?_) (by rw [hlen]; simpa using hz)
  · obtain ⟨o, ho, c, d⟩ := st.2.1
    exact ⟨o, ho, c⟩
  · show b < (s1.heap.push _).objs.size
    rw [Heap.size_push]
    rcases List.mem_cons.mp hb with rfl | hb
    · exact Nat.lt_succ_self _
    · rcases List.mem_cons.mp hb with rfl | hb
      · exact Nat.lt_succ_of_lt hlp
      · cases hb
  · have : v ∈ strValues l := by simpa using Array.mem_of_getElem? hv
    obtain ⟨⟨y, u⟩, _, rfl⟩ := List.mem_map.mp this
    exact ⟨y, u, rfl⟩
  · have e' : l'.map (·.1) = zs.reverse := by
      have hn' : l'.length = zs.length := by have := items.1; rw [hlen] at this; simpa [strValues] using this
      refine List.ext_getElem? fun i => ?_
      by_cases hi : i < zs.length
      · have hi' : i < l'.length := by omega
        have h1 : (strValues l').toArray[i]? = some (.str (l'[i]).1 (l'[i]).2) := by simp [strValues, hi']
        have h2 := items.2 i _ h1
        rw [hlen] at h2
        have hj : zs.length - 1 - i < l.length := by rw [← e2, List.length_map] at hi ⊢; omega
        have h3 : (strValues l).toArray[zs.length - 1 - i]? = some (.str (l[zs.length - 1 - i]).1 (l[zs.length - 1 - i]).2) := by simp [strValues, hj]
        rw [h3] at h2
        have h4 : (l[zs.length - 1 - i]).1 = (l'[i]).1 := by
          have := Option.some.inj h2
          simp only [Value.str.injEq] at this
          exact this.1
        have h5 : zs[zs.length - 1 - i]? = some (l[zs.length - 1 - i]).1 := by
          have : (l.map (·.1))[zs.length - 1 - i]? = some (l[zs.length - 1 - i]).1 := by rw [List.getElem?_map, List.getElem?_eq_getElem hj]; rfl
          rw [e2] at this
          exact this
        rw [List.getElem?_reverse hi, h5, List.getElem?_map, List.getElem?_eq_getElem hi', h4]
        rfl
      · rw [List.getElem?_eq_none (by simp; omega), List.getElem?_eq_none (by simp; omega)]
    rw [e']
    refine ⟨hok, fun t' k => ⟨.str _, H1, ?_, ⟨_, rfl⟩, q⟩⟩
    have I3 := I2.turned (t' := k) (h' := s'.heap) (it := s1.heap.objs.size) (fun b o hb e => mv.heap b o (by simpa using hb) e) f0 f1 f3 f4 f5
    have hg := mv.gens
    have hd := mv.drawn
    have ho := mv.os
    obtain ⟨a1, a2, a3, a4, a5⟩ := s'
    simp only at hg hd ho
    subst hg hd ho
    exact I3
end
end L2
set_option Elab.async false
set_option linter.all false
set_option maxRecDepth 100000
set_option maxHeartbeats 2000000
namespace L2
open PySem PySem.Spec PyProof.Rows
section
variable {X : Cx}
end
end L2
set_option Elab.async false
set_option linter.all false
set_option maxRecDepth 100000
set_option maxHeartbeats 2000000
namespace L2
open PySem PySem.Spec PyProof.Rows
section
variable {X : Cx} {pins : List (Addr × Obj)} {σ : St} {H : Hp} {s : Shared} {A : Around} {Q : Value → Shared → Prop} {E : Value → Shared → Prop} {b : Bool}
theorem isinst_tup {x : V} {u t : Value} {tp : Addr} {dd : Option Addr} {its : List Value} {n₀ : Nat} {sl : Array (Option Value)} (I : Inv X pins σ H s) (rx : RelV x u) (ty : TyOf X.K H x t) (htp : s.heap.get? tp = some ⟨.type "tuple", dd, .seq its.toArray n₀, sl⟩) (e : PySem.W.kitAny X.K t its = some b) (h : ∀ tk, Q (.bool b) { s with toks := tk }) :
    wpAny (model X.prog X.w) A (call (.builtin "isinstance") [u, .ref tp]) Q E s := by
  cases ty with
  | non => cases (show u = Value.none from rx); exact PySem.W.kia_tup PySem.W.kitx_none I.kIn True.intro htp e (fun z => nomatch z) h
  | bl y => cases (show u = Value.bool y from rx); exact PySem.W.kia_tup PySem.W.kitx_bool I.kIn True.intro htp e (fun z => nomatch z) h
  | int i => obtain ⟨t, q⟩ := (show ∃ t, u = Value.int i t from rx); cases q; exact PySem.W.kia_tup PySem.W.kitx_int I.kIn True.intro htp e (fun z => nomatch z) h
  | str y => obtain ⟨t, q⟩ := (show ∃ t, u = Value.str y t from rx); cases q; exact PySem.W.kia_tup PySem.W.kitx_str I.kIn True.intro htp e (fun z => nomatch z) h
  | flt y => obtain ⟨t, q⟩ := (show ∃ t, u = Value.float y t from rx); cases q; exact PySem.W.kia_tup PySem.W.kitx_float I.kIn True.intro htp e (fun z => nomatch z) h
  | @lst a xs ea =>
    cases (show u = Value.ref a from rx)
    obtain ⟨_, _, n, _, h1⟩ := (show ObjOk X.prog X.w H s.heap a (.lst xs) from I.hok a _ ea)
    exact PySem.W.kia_tup PySem.W.kitx_list I.kIn ⟨_, h1, rfl⟩ htp e (fun z => nomatch z) h
  | @frz a ob xs ea =>
    cases (show u = Value.ref a from rx)
    obtain ⟨_, _, _, n, _, h1⟩ := (show ObjOk X.prog X.w H s.heap a (.frz ob (.lst xs)) from I.hok a _ ea)
    exact PySem.W.kia_tup PySem.W.kitx_list I.kIn ⟨_, h1, rfl⟩ htp e (fun z => nomatch z) h
  | @tup a xs ea =>
    cases (show u = Value.ref a from rx)
    obtain ⟨_, _, _, p⟩ := (show ObjOk X.prog X.w H s.heap a (.tup xs) from I.hok a _ ea)
    obtain ⟨o, h1, h2, _⟩ := p
    exact PySem.W.kia_tup PySem.W.kitx_tuple I.kIn ⟨o, h1, h2⟩ htp e (fun z => nomatch z) h
  | @dK a kvs ea =>
    cases (show u = Value.ref a from rx)
    obtain ⟨_, _, vs, _, p⟩ := (show ObjOk X.prog X.w H s.heap a (.dK kvs) from I.hok a _ ea)
    obtain ⟨o, es, ep, h1, h2, _⟩ := p
    exact PySem.W.kia_tup PySem.W.kitx_dict I.kIn ⟨o, h1, h2.1⟩ htp e (fun z => nomatch z) h
  | @dT a kvs ea =>
    cases (show u = Value.ref a from rx)
    obtain ⟨_, _, xs, _, o, es, ep, h1, h2, _⟩ := (show ObjOk X.prog X.w H s.heap a (.dT kvs) from I.hok a _ ea)
    exact PySem.W.kia_tup PySem.W.kitx_dict I.kIn ⟨o, h1, h2.1⟩ htp e (fun z => nomatch z) h
  | @ins a C dx fs ea cl ha hn htk hm =>
    cases (show u = Value.ref a from rx)
    obtain ⟨mA, O, _⟩ := ins_get I.hok ea
    obtain ⟨od, J, _⟩ := O.look
    exact PySem.W.kia_tup (PySem.W.kitx_own (cl.get _) cl.hd ha hn htk hm) I.kIn J htp e (fun z => nomatch z) h
end
section
variable {X : Cx} {a b c d : Expr} {ta tb tc td : TE} {pos : Pos}
theorem ty_vals : ∀ (ns : List String) {its : List Value}, Vals (ns.map V.ty) its → its = ns.map Value.type
  | [], _, .nil => rfl
  | n :: ns, _, .cons h t => by rw [show _ = Value.type n from h, ty_vals ns t]; rfl
theorem call_isinstT {K : PySem.W.Frag} (hK : X.K = K) : CallR X (.builtin "isinstance") (fun xs H Q => ∃ (x : V) (tp : Addr) (t : Value) (ns : List String) (b : Bool), xs = [x, .ref tp] ∧ TyOf K H x t ∧ H tp = some (.tup (ns.map V.ty)) ∧ PySem.W.kitAny K t (ns.map Value.type) = some b ∧ Q (.bl b) H) := by
  subst hK
  intro pins s σ H xs us Q I r h
  obtain ⟨x, tp, t, ns, b, rfl, ty, ht, hk, q⟩ := h
  obtain ⟨u1, u2, rfl, r1, r2⟩ := vals2 r
  cases r2
  obtain ⟨_, its, rv, ot, g1, g2, k, g3⟩ := (show ObjOk X.prog X.w H s.heap tp (.tup (ns.map V.ty)) from I.hok tp _ ht)
  have eits : its = ns.map Value.type := ty_vals ns rv
  subst eits
  obtain ⟨oc, od, dat, sl⟩ := ot
  cases (show oc = _ from g2)
  cases (show dat = _ from g3)
  exact isinst_tup I r1 ty g1 hk fun tk => ⟨.bl b, H, I.tok tk, rfl, q⟩
end
section
variable {X : Cx}
end
end L2
set_option Elab.async false
set_option linter.all false
set_option maxRecDepth 100000
set_option maxHeartbeats 2000000
namespace L2
open PySem PySem.Spec PyProof.Rows
def Itens (z : Str) : It :=
  ⟨fun i _ => i < z.cps.size, fun i H x H' => ∃ p c, H p = none ∧ x = .ref p ∧ z.cps[i]? = some c ∧ H' = upd H p (.tup [.int i, .str ⟨#[c]⟩]), fun i _ => i = z.cps.size⟩
theorem turn_enumS {P : Program} {w : World} {K : PySem.W.Frag} {elts : List Expr} {k : Nat} {pos : Pos} (z : Str) (t : Tok) (e it : Addr) (hei : e ≠ it) : Turn P w K (.Tuple elts k pos) (Itens z) [e, it] e (fun i h => (∃ old, IsEnum h e it i old) ∧ h.IsStrIter it "str_ascii_iterator" z t i) where
  mem := by simp
  obj := fun i h st b hb => by
    obtain ⟨⟨old, he⟩, o, e1, c, d⟩ := st
    rcases List.mem_cons.mp hb with z | z
    · subst z
      exact ⟨_, he, fun v z => by cases z⟩
    · have z : b = it := by simpa using z
      subst z
      exact ⟨o, e1, fun v z => by rw [d] at z; cases z⟩
  keep := fun i h h' st kp => by
    obtain ⟨⟨old, he⟩, o, e1, r⟩ := st
    exact ⟨⟨old, kp e (by simp) _ he⟩, o, kp it (by simp) o e1, r⟩
  item := by
    intro X hP hw hK hc i pins s σ H E I hf st hg
    subst hP hw hK
    have hg : i < z.cps.size := hg
    obtain ⟨⟨old, he⟩, hit⟩ := st
    have helt : e < s.heap.objs.size := Heap.lt_size he
    have hilt : it < s.heap.objs.size := by obtain ⟨_, x, _⟩ := hit; exact Heap.lt_size x
    refine wpAny_pyNext_enum_itemD (Draws.strAscii (A := X.A.in1) (I.ok.hd hc) it z t) he hit hg hei (by simpa using hei) fun x h' tk hPx ho hit' hT hsz hk => ?_
    obtain ⟨c, u, hcz, rfl⟩ := hPx
    refine ⟨_, rfl, wpAny_letOwnedTupleGo_enum ho fun h'' he' hs' => ?_⟩
    have hs2 : Heap.SameBut e h' h'' := hs'
    have keep : ∀ b o, b ∉ [e, it] → s.heap.get? b = some o → h''.get? b = some o := fun b o hb q => by
      have b1 : b ≠ e := fun z => hb (by simp [z])
      have b2 : b ≠ it := fun z => hb (by simp [z])
      exact (hs2.2 b b1).trans (hk b o b1 b2 q)
    have I1 : Inv X pins σ H { s with heap := h'', toks := tk + 1 } := I.turnedL keep hf
    have gT : h''.get? s.heap.objs.size = some { cls := .type "tuple", data := .seq #[.int i tk, .str ⟨#[c]⟩ u] } := (hs2.2 _ (Nat.ne_of_gt helt)).trans hT
    have fresh : H s.heap.objs.size = none := I.hok.fresh (Nat.le_refl _)
    have I2 := I1.adopt (a := s.heap.objs.size) (o := .tup [.int i, .str ⟨#[c]⟩]) fresh I.sz (Nat.ne_of_gt I.lt) (fun y c e1 => by
        obtain ⟨v, q⟩ := I.cell y c e1
        exact Nat.ne_of_lt q.lt) (fun q hq => Nat.ne_of_lt (Heap.lt_size (I.pin q hq).1)) ⟨by show 2 ≤ sizeLine; decide, [.int i tk, .str ⟨#[c]⟩ u], .cons ⟨_, rfl⟩ (.cons ⟨_, rfl⟩ .nil), ⟨_, gT, rfl, _, rfl⟩⟩
    refine ⟨.ref s.heap.objs.size, _, I2, rfl, ⟨_, c, fresh, rfl, hcz, rfl⟩, ⟨⟨_, by simpa using he'⟩, ?_⟩, fun b hb => ?_⟩
    · obtain ⟨o, ho2, r⟩ := hit'
      exact ⟨o, (hs2.2 it hei.symm).trans ho2, r⟩
    rw [upd_ne]
    · exact (hf b hb).1
    · rcases List.mem_cons.mp hb with z | z
      · rw [z]; exact Nat.ne_of_lt helt
      · have z : b = it := by simpa using z
        rw [z]; exact Nat.ne_of_lt hilt
  done := by
    intro X hP hw hK hc i pins s σ H E I hf st hg
    subst hP hw hK
    have hg : i = z.cps.size := hg
    subst hg
    obtain ⟨⟨old, he⟩, hit⟩ := st
    refine wpAny_pyNext_enum_endD (Draws.strAscii (A := X.A.in1) (I.ok.hd hc) it z t) he hit fun h' eb => ⟨rfl, I.turnedL (t' := s.toks) (fp := [e, it]) (fun b o hb q => eb b o (fun z => hb (by simp [z])) q) hf⟩
  self := fun _ _ _ _ _ st h => by
    obtain ⟨⟨old, he⟩, _⟩ := st
    exact wpAny_pyIter_enum he h
def iEnumS (ta : TA) : TI := fun σ H R => ta σ H fun vs H1 => ∃ z, vs = [.str z] ∧ z.cps.all (· < 128) = true ∧ R (Itens z) H1
theorem pi_enumS {X : Cx} {elts : List Expr} {k : Nat} {tpos : Pos} {a : Expr} {ta : TA} {p pos : Pos} (hg : Gl X "enumerate") (hm : X.mg "enumerate" = none) (ha : PA X [a] ta) (hs : starEach [a] X.env = [(false, eval a X.env)] := by rfl) : PI X (.Tuple elts k tpos) (.Call (.Name "enumerate" p) [a] [] pos) (iEnumS ta) := by
  intro pins s σ H R I h
  refine Call_ (ld_blt I hg hm boot_enumerate (PyProof.Rows.callWith_type1 (thn (ha pos pins s σ H _ I h) fun us s1 ⟨vs, H1, I1, r1, q1⟩ => ?_) hs rfl))
  obtain ⟨z, e, hasc, q⟩ := q1
  subst e
  obtain ⟨u, rfl, ru⟩ := vals1 r1
  obtain ⟨t, rfl⟩ := ru
  refine call_enumerate_str fun h' he hit hsz hk => ?_
  have hty : strIterType z = "str_ascii_iterator" := by
    unfold strIterType
    first
      | rw [if_pos hasc]
      | simp [hasc]
  rw [hty] at hit
  refine wpAny_pyIter_enum (s := { s1 with heap := h' }) he ?_
  have I2 : Inv X pins σ H1 { s1 with heap := h' } := I1.kept (t' := s1.toks) hk
  refine ⟨s1.heap.objs.size + 1, [s1.heap.objs.size + 1, s1.heap.objs.size], _, _, H1, rfl, I2, turn_enumS z t _ _ (Nat.succ_ne_self _), ⟨⟨_, he⟩, hit⟩, fun b hb => ?_, q⟩
  have hb2 : s1.heap.objs.size ≤ b := by
    rcases List.mem_cons.mp hb with z | z
    · rw [z]; exact Nat.le_succ _
    · have z : b = s1.heap.objs.size := by simpa using z
      rw [z]; exact Nat.le_refl _
  exact I1.fpOk hb2 (I1.hok.fresh hb2)
theorem for_enumS {z : Str} {g : TG} {tb : TS} {D : Ends} {σ : St} {H : Hp} (Pv : Nat → St → Hp → Prop) (h0 : Pv 0 σ H)
    (hs : ∀ i c p σ H, z.cps[i]? = some c → Pv i σ H → H p = none → g (.ref p) σ (upd H p (.tup [.int i, .str ⟨#[c]⟩])) fun σ2 H2 => tb { D with nx := Pv (i + 1), ct := Pv (i + 1), bk := D.nx } σ2 H2) (hd : ∀ σ H, Pv z.cps.size σ H → D.nx σ H) :
    ∃ W : Nat → Nat → St → Hp → Prop, (∃ m, W 0 m σ H) ∧ ∀ i m σ H, W i m σ H →
      ((Itens z).stop i H ∧ D.nx σ H) ∨ ((Itens z).go i H ∧ ∃ N : St → Hp → Prop, (∀ σ' H', N σ' H' → ∃ m', m' < m ∧ W (i + 1) m' σ' H') ∧ ∀ x H', (Itens z).yld i H x H' → g x σ H' fun σ2 H2 => tb { D with nx := N, ct := N, bk := D.nx } σ2 H2) := by
  refine ⟨fun i m σ H => m = z.cps.size - i ∧ i ≤ z.cps.size ∧ Pv i σ H, ⟨z.cps.size, by simp, Nat.zero_le _, h0⟩, ?_⟩
  rintro i m σ H ⟨rfl, hi, p⟩
  by_cases hlt : i < z.cps.size
  · refine .inr ⟨hlt, Pv (i + 1), fun σ' H' p' => ⟨z.cps.size - (i + 1), by omega, rfl, hlt, p'⟩, fun x H' y => ?_⟩
    obtain ⟨pa, c, n, e1, hc, e2⟩ := y
    subst e1 e2
    exact hs i c pa σ _ hc p n
  · have e : i = z.cps.size := by omega
    subst e
    exact .inl ⟨rfl, hd σ H p⟩
section
variable {X : Cx} {o e : Expr} {es : List Expr} {to : TE} {t : TA} {name : Str} {apos cpos : Pos} {T id : String} {r : V → List V → Hp → VK → Prop} {K : PySem.W.Frag}
theorem pe_bmK (hK : X.K = K) (pa : PlainAttrs T) (slot : Slot T name id) (hty : typeOf (.builtin id) = pure (.type "method_descriptor")) (hm : MtR X id r) (ho : PE X o to) (ha : PA X (e :: es) t)
    (hbase : attributeBase o name X.env (eval o X.env) = eval o X.env := by rfl)
    (hfew : ((backTo cpos (starEach (e :: es) X.env)).all (fun x => !x.1) && (backToKw cpos (keywordEach [] X.env)).all (fun x => x.1.isSome)
      && decide ((e :: es).length + ([] : List Keyword).length + (if ([] : List Keyword).isEmpty then 0 else 1) < 30)) = true := by rfl)
    (hline : (apos.endLine == cpos.line) = true := by rfl) (hs : starEach (e :: es) X.env = (false, eval e X.env) :: starEach es X.env := by rfl) (hplain : (backTo cpos (starEach es X.env)).any (·.1) = false := by rfl) :
    PE X (.Call (.Attribute o name apos) (e :: es) [] cpos) (tBM K T r to t) := by
  subst hK; exact pe_bm pa slot hty hm ho ha hbase hfew hline hs hplain
end
end L2
set_option Elab.async false
set_option linter.all false
set_option maxRecDepth 100000
set_option maxHeartbeats 4000000
namespace L2
open PySem PySem.Spec PyProof.Rows
theorem pe_notT {X : Cx} {a : Expr} {ta : TE} {pos : Pos} (ha : PE X a ta) : PE X (.UnaryOp .Not a pos) (fun σ H Q => ta σ H fun x H' => ∃ k, TruV X.K x H' k ∧ Q (.bl (!k)) H') := by
  intro pins s σ H Q I h
  refine UnaryOp_ (thn (ha pins s σ H _ I h) fun v s1 ⟨x, H1, I1, r1, k, tr, q1⟩ => ?_)
  exact not_of (thn (tru_ok pins s1 σ H1 x v _ I1 r1 ⟨k, tr, q1⟩) fun b s2 ⟨H2, I2, q2⟩ => ⟨.bl (!b), H2, I2, rfl, q2⟩)
theorem Same.upd {H H1 : Hp} {p : Addr} {o : HO} (a : Same H H1) (h : H p = none) : Same H (L2.upd H1 p o) := fun b u q => by
  rw [upd_ne (ne_of_none q h)]; exact a b u q
end L2
namespace Put
open PySem L2
def top (i : Nat) : Stmt := PySem.Challenge.pw_putsigns_k50_ways_written.main.body.getD i (.Pass ⟨0, 0, 0, 0⟩)
inductive Sg where
  | plus | minus | times
  deriving DecidableEq
def Sg.str : Sg → Str
  | .plus => "+"
  | .minus => "-"
  | .times => "*"
inductive Wy where
  | num (i : Int)
  | node (g : Sg) (l r : Wy)
  deriving DecidableEq
def Wy.size : Wy → Nat
  | .num _ => 1
  | .node _ l r => l.size + r.size
def Wy.knots : Wy → Nat
  | .num _ => 1
  | .node _ l r => l.knots + r.knots + 1
theorem Wy.size_pos : ∀ w : Wy, 1 ≤ w.size
  | .num _ => Nat.le_refl _
  | .node _ l r => by have := l.size_pos; show 1 ≤ l.size + r.size; omega
def WyIn (H : Hp) : Wy → V → Prop
  | .num i, v => v = .int i
  | .node g l r, v => ∃ a vl vr, v = .ref a ∧ H a = some (.tup [.str g.str, vl, vr]) ∧ WyIn H l vl ∧ WyIn H r vr
def Tups (H H' : Hp) : Prop := ∀ b xs, H b = some (.tup xs) → H' b = some (.tup xs)
theorem Tups.of {H H' : Hp} (a : Same H H') : Tups H H' := fun b xs h => a b _ h
theorem Tups.but {H H' : Hp} {w : Addr} {xs : List V} (a : But w H H') (h : H w = some (.lst xs)) : Tups H H' := fun b ys q => a b _ (fun e => by rw [e, h] at q; cases q) q
theorem Tups.trans {H H1 H2 : Hp} (a : Tups H H1) (b : Tups H1 H2) : Tups H H2 := fun c xs h => b c xs (a c xs h)
theorem WyIn.mono {H H' : Hp} (t : Tups H H') : ∀ {w : Wy} {v : V}, WyIn H w v → WyIn H' w v
  | .num _, _, h => h
  | .node g l r, v, h => by
    obtain ⟨a, vl, vr, e, h1, h2, h3⟩ := h
    exact ⟨a, vl, vr, e, t _ _ h1, WyIn.mono t h2, WyIn.mono t h3⟩
def WyAll (H : Hp) (ws : List Wy) (vs : List V) : Prop := Paired (fun w v => WyIn H w v) ws vs
theorem WyAll.mono {H H' : Hp} (t : Tups H H') : ∀ {ws : List Wy} {vs : List V}, WyAll H ws vs → WyAll H' ws vs
  | _, _, .nil => .nil
  | _, _, .cons a b => .cons (a.mono t) (WyAll.mono t b)
theorem WyAll.snoc {H : Hp} {w : Wy} {v : V} (h : WyIn H w v) : ∀ {ws : List Wy} {vs : List V}, WyAll H ws vs → WyAll H (ws ++ [w]) (vs ++ [v])
  | _, _, .nil => .cons h .nil
  | _, _, .cons a b => .cons a (WyAll.snoc h b)
theorem WyAll.length {H : Hp} : ∀ {ws : List Wy} {vs : List V}, WyAll H ws vs → ws.length = vs.length
  | _, _, .nil => rfl
  | _, _, .cons _ b => congrArg (· + 1) (WyAll.length b)
def sizes (ws : List Wy) : Nat := (ws.map Wy.size).sum
def knotss (ws : List Wy) : Nat := (ws.map Wy.knots).sum
theorem sizes_snoc (ws : List Wy) (w : Wy) : sizes (ws ++ [w]) = sizes ws + w.size := by simp [sizes]
theorem knotss_snoc (ws : List Wy) (w : Wy) : knotss (ws ++ [w]) = knotss ws + w.knots := by simp [knotss]
theorem length_le_sizes : ∀ ws : List Wy, ws.length ≤ sizes ws
  | [] => Nat.le_refl _
  | w :: r => by
    have a := length_le_sizes r; have b := w.size_pos
    show r.length + 1 ≤ (w.size :: r.map Wy.size).sum
    rw [List.sum_cons]
    have : sizes r = (r.map Wy.size).sum := rfl
    omega
theorem WyAll.last {H : Hp} {ws : List Wy} {vs : List V} (h : WyAll H ws vs) (ne : vs ≠ []) : ∃ ws' w vs' v, ws = ws' ++ [w] ∧ vs = vs' ++ [v] ∧ WyAll H ws' vs' ∧ WyIn H w v := by
  induction h with
  | nil => exact absurd rfl ne
  | @cons w v ws vs a b ih =>
    cases b with
    | nil => exact ⟨[], w, [], v, rfl, rfl, .nil, a⟩
    | cons a' b' =>
      obtain ⟨ws', w', vs', v', e1, e2, h1, h2⟩ := ih (by simp)
      exact ⟨w :: ws', w', v :: vs', v', by rw [e1]; rfl, by rw [e2]; rfl, .cons a h1, h2⟩
structure Bu (K : PySem.W.Frag) (mg : Str → Option Value) : Prop where
  ilen : mg "len" = none
  iisinstance : mg "isinstance" = none
  iint : mg "int" = none
  ibool : mg "bool" = none
  istr : mg "str" = none
  ituple : mg "tuple" = none
  ilist : mg "list" = none
  isorted : mg "sorted" = none
  irange : mg "range" = none
  irepr : mg "repr" = none
  ienumerate : mg "enumerate" = none
  isum : mg "sum" = none
  iall : mg "all" = none
  imin : mg "min" = none
  imax : mg "max" = none
  iabs : mg "abs" = none
  idivmod : mg "divmod" = none
  idict : mg "dict" = none
  iset : mg "set" = none
  ireversed : mg "reversed" = none
  iany : mg "any" = none
  izip : mg "zip" = none
structure Co (K : PySem.W.Frag) (mg : Str → Option Value) (tk : Tok) (aS : Addr) : Prop where
  gMOST_NUMBERS : mg "MOST_NUMBERS" = some (.int 9 tk)
  gSIGNS : mg "SIGNS" = some (.ref aS)
  sSIGNS : ∀ H, SqT K H aS [.str "+", .str "-", .str "*"]
section
variable {P : Program} {w : World} {K : PySem.W.Frag} {mg : Str → Option Value} {base : Heap} {f : Addr} {fd : FuncData}
def spWhole (K : PySem.W.Frag) : Sp := fun vs H Q _ => ∃ x n, vs = [x] ∧ TyOf K H x (.type n) ∧ Q (.bl (decide (n = "int"))) H
abbrev s_is_whole : Stmt := top 7
theorem sc_is_whole : FnScope ["thing"] ["thing"] (defScope s_is_whole) := ⟨rfl, rfl, rfl, by decide +kernel, rfl, by decide +kernel, by decide +kernel⟩
theorem ok_is_whole (F : Fun K "is_whole" "is_whole" s_is_whole f fd) (B : Bu K mg) : FnOk P w K mg base CX0 1 f fd ["thing"] (spWhole K) := by
  refine F.ok sc_is_whole (fun vs H Q E h => ?_) (fun cdv A outer s H vs Q E hr h => ?_)
  · obtain ⟨x, n, rfl, _⟩ := h
    rfl
  obtain ⟨x, n, rfl, ty, q⟩ := h
  refine ⟨_, (@pss_one _ _ _ (@ps_ret _ _ _ _ (@pe_and _ _ _ _ _ _ _ (@pe_callB _ _ _ _ _ _ _ _ _ (@call_isinst _ ("int")) rfl B.iisinstance PyProof.Rows.boot_isinstance (@pa_cons _ _ _ _ _ (@pv _ 0 _ _ (by rfl) (by first | exact Or.inl rfl | exact Or.inr ( Or.inl rfl ) | exact Or.inr ( Or.inr rfl )) (by decide) (by decide)) (@pa_cons _ _ _ _ _ (@pe_bltn _ _ (.ty "int") _ _ rfl B.iint PyProof.Rows.boot_int rfl (by decide) (by decide)) pa_nil (by rfl)) (by rfl)) (by decide) (by decide) (by rfl) (by rfl)) (@pe_one _ _ _ _ _ (@pe_not _ _ _ _ (@pe_callB _ _ _ _ _ _ _ _ _ (@call_isinst _ ("bool")) rfl B.iisinstance PyProof.Rows.boot_isinstance (@pa_cons _ _ _ _ _ (@pv _ 0 _ _ (by rfl) (by first | exact Or.inl rfl | exact Or.inr ( Or.inl rfl ) | exact Or.inr ( Or.inr rfl )) (by decide) (by decide)) (@pa_cons _ _ _ _ _ (@pe_bltn _ _ (.ty "bool") _ _ rfl B.ibool PyProof.Rows.boot_bool rfl (by decide) (by decide)) pa_nil (by rfl)) (by rfl)) (by decide) (by decide) (by rfl) (by rfl))))))), ?_⟩
  cases ty with
  | non => exact ⟨_, rfl, _, _, false, rfl, .non, rfl, false, rfl, iteF q⟩
  | bl y => exact ⟨_, rfl, _, _, true, rfl, .bl y, rfl, true, rfl, iteT ⟨_, rfl, _, _, true, rfl, .bl y, rfl, true, rfl, q⟩⟩
  | int i => exact ⟨_, rfl, _, _, true, rfl, .int i, rfl, true, rfl, iteT ⟨_, rfl, _, _, false, rfl, .int i, rfl, false, rfl, q⟩⟩
  | str y => exact ⟨_, rfl, _, _, false, rfl, .str y, rfl, false, rfl, iteF q⟩
  | flt y => exact ⟨_, rfl, _, _, false, rfl, .flt y, rfl, false, rfl, iteF q⟩
  | lst e => exact ⟨_, rfl, _, _, false, rfl, .lst e, rfl, false, rfl, iteF q⟩
  | frz e => exact ⟨_, rfl, _, _, false, rfl, .frz e, rfl, false, rfl, iteF q⟩
  | tup e => exact ⟨_, rfl, _, _, false, rfl, .tup e, rfl, false, rfl, iteF q⟩
  | dK e => exact ⟨_, rfl, _, _, false, rfl, .dK e, rfl, false, rfl, iteF q⟩
  | dT e => exact ⟨_, rfl, _, _, false, rfl, .dT e, rfl, false, rfl, iteF q⟩
def isSg (z : Str) : Bool := inV (.str z) [.str "+", .str "-", .str "*"]
theorem isSg_str (g : Sg) : isSg g.str = true := by cases g <;> decide +kernel
def spSign : Sp := fun vs H Q _ => ∃ z, vs = [.str z] ∧ Q (.bl (isSg z)) H
abbrev s_is_sign : Stmt := top 8
theorem sc_is_sign : FnScope ["thing"] ["thing"] (defScope s_is_sign) := ⟨rfl, rfl, rfl, by decide +kernel, rfl, by decide +kernel, by decide +kernel⟩
theorem ok_is_sign {tk : Tok} {aS : Addr} (F : Fun K "is_sign" "is_sign" s_is_sign f fd) (B : Bu K mg) (B' : Co K mg tk aS) : FnOk P w K mg base CX0 1 f fd ["thing"] spSign := by
  refine F.ok sc_is_sign (fun vs H Q E h => ?_) (fun cdv A outer s H vs Q E hr h => ?_)
  · obtain ⟨x, rfl, _⟩ := h
    rfl
  obtain ⟨z, rfl, q⟩ := h
  refine ⟨_, (pss_one (ps_ret (pe_and (pe_callB (call_isinst (n := "str")) rfl B.iisinstance PyProof.Rows.boot_isinstance (pa_cons (pv 0) (pa_cons (pe_bltn (v := .ty "str") rfl B.istr PyProof.Rows.boot_str rfl) pa_nil))) (pe_one (pe_cmpR op_in_seq (pv 0) (pe_glob (v := .ref aS) rfl B'.gSIGNS rfl) (by with_unfolding_all rfl)))))), ?_⟩
  exact ⟨_, rfl, _, _, true, rfl, .str z, rfl, true, rfl, iteT ⟨_, rfl, aS, _, rfl, .inr (B'.sSIGNS H), rfl, rfl, q⟩⟩
end
end Put
set_option Elab.async false
set_option linter.all false
set_option maxRecDepth 100000
set_option maxHeartbeats 4000000
namespace Put
open PySem L2
section
variable {P : Program} {w : World} {K : PySem.W.Frag} {mg : Str → Option Value} {base : Heap} {f : Addr} {fd : FuncData}
theorem last_at {α : Type} (xs : List α) (x : α) : (xs ++ [x])[(xs ++ [x]).length - 1]? = some x := by simp
theorem trunc (xs : List V) (x : V) : (xs ++ [x]).dropLast = xs := by simp
theorem le_line {n : Nat} (h : n ≤ 1000) : n ≤ sizeLine := Nat.le_of_lt (small1000 h)
def spIsWay : Sp := fun vs H Q _ => ∃ w v, vs = [v] ∧ WyIn H w v ∧ w.size ≤ 9 ∧ ∀ H', Same H H' → Q (.bl true) H'
abbrev s_is_way : Stmt := top 9
theorem sc_is_way : FnScope ["thing", "waiting", "numbers", "part"] ["thing"] (defScope s_is_way) := ⟨rfl, rfl, rfl, by decide +kernel, rfl, by decide +kernel, by decide +kernel⟩
theorem ok_is_way {tk : Tok} {aS : Addr} (F : Fun K "is_way" "is_way" s_is_way f fd) (B : Bu K mg) (B' : Co K mg tk aS) (C_is_whole : Cal P w K mg base "is_whole" 1 ["thing"] (spWhole K)) (C_is_sign : Cal P w K mg base "is_sign" 1 ["thing"] spSign) :
    FnOk P w K mg base CX0 2 f fd ["thing"] spIsWay := by
  refine F.ok sc_is_way (fun vs H Q E h => ?_) (fun cdv A outer s H vs Q E hr h => ?_)
  · obtain ⟨x, v, rfl, _⟩ := h
    rfl
  obtain ⟨wy, v, rfl, hw, h9, q⟩ := h
  refine ⟨_, (@pss_cons _ _ _ _ _ (@ps_set _ _ (1) _ _ _ _ (sc_is_way).nd rfl (Or.inl rfl) (@pe_lst _ _ _ _ (@pa_cons _ _ _ _ _ (@pv _ 0 _ _ (by rfl) (by first | exact Or.inl rfl | exact Or.inr ( Or.inl rfl ) | exact Or.inr ( Or.inr rfl )) (by decide) (by decide)) pa_nil (by rfl))) (by rfl) (by first | exact .inl rfl | exact .inr rfl | assumption)) (@pss_cons _ _ _ _ _ (@ps_set _ _ (2) _ _ _ _ (sc_is_way).nd rfl (Or.inl rfl) pe_int (by rfl) (by first | exact .inl rfl | exact .inr rfl | assumption)) (@pss_cons _ _ _ _ _ (@ps_while _ _ _ _ _ _ PassesOwn.never (@PW.pt _ _ _ (@pw_and _ _ _ _ _ _ _ (@pt_truth _ _ _ (@pv _ 1 _ _ (by rfl) (by first | exact Or.inl rfl | exact Or.inr ( Or.inl rfl ) | exact Or.inr ( Or.inr rfl )) (by decide) (by decide)) (fun _ => rfl)) (@pw_and1 _ _ _ _ (@pt_cmpR _ _ _ _ _ _ _ _ op_le (@pe_op _ _ _ _ _ _ _ _ op_add (@pv _ 2 _ _ (by rfl) (by first | exact Or.inl rfl | exact Or.inr ( Or.inl rfl ) | exact Or.inr ( Or.inr rfl )) (by decide) (by decide)) (@pe_callB _ _ _ _ _ _ _ _ _ call_len_seq rfl B.ilen PySem.boot_len (@pa_cons _ _ _ _ _ (@pv _ 1 _ _ (by rfl) (by first | exact Or.inl rfl | exact Or.inr ( Or.inl rfl ) | exact Or.inr ( Or.inr rfl )) (by decide) (by decide)) pa_nil (by rfl)) (by decide) (by decide) (by rfl) (by rfl))) (@pe_glob _ _ (.int 9) _ _ rfl B'.gMOST_NUMBERS ⟨_, rfl⟩ (by decide)) (nomark _))))) (@pss_cons _ _ _ _ _ (@ps_set _ _ (3) _ _ _ _ (sc_is_way).nd rfl (Or.inl rfl) (@pe_bm0 _ _ _ _ _ _ _ _ _ PySem.F.plainAttrs_list PySem.F.slot_list_pop PySem.F.type_list_pop mt_pop (@pv _ 1 _ _ (by rfl) (by first | exact Or.inl rfl | exact Or.inr ( Or.inl rfl ) | exact Or.inr ( Or.inr rfl )) (by decide) (by decide)) (by rfl) (by rfl)) (by rfl) (by first | exact .inl rfl | exact .inr rfl | assumption)) (@pss_one _ _ _ (@ps_if _ _ _ _ _ _ _ _ (@pt_val _ _ _ (@pe_cal _ _ _ _ _ _ _ _ _ _ _ C_is_whole hr (by omega) rfl (@pa_cons _ _ _ _ _ (@pv _ 3 _ _ (by rfl) (by first | exact Or.inl rfl | exact Or.inr ( Or.inl rfl ) | exact Or.inr ( Or.inr rfl )) (by decide) (by decide)) pa_nil (by rfl)) (by decide) (by rfl) (by rfl)) (by intro _; rfl)) (@pss_one _ _ _ (@ps_aug _ _ (2) _ _ _ _ _ _ (sc_is_way).nd rfl (Or.inl rfl) pe_int ip_add (by first | exact .inl rfl | exact .inr rfl | assumption))) (@pss_one _ _ _ (@ps_if _ _ _ _ _ _ _ _ (@PW.pt _ _ _ (@pw_and _ _ _ _ _ _ _ (@pt_val _ _ _ (@pe_callB _ _ _ _ _ _ _ _ _ (@call_isinst _ ("tuple")) rfl B.iisinstance PyProof.Rows.boot_isinstance (@pa_cons _ _ _ _ _ (@pv _ 3 _ _ (by rfl) (by first | exact Or.inl rfl | exact Or.inr ( Or.inl rfl ) | exact Or.inr ( Or.inr rfl )) (by decide) (by decide)) (@pa_cons _ _ _ _ _ (@pe_bltn _ _ (.ty "tuple") _ _ rfl B.ituple PyProof.Rows.boot_tuple rfl (by decide) (by decide)) pa_nil (by rfl)) (by rfl)) (by decide) (by decide) (by rfl) (by rfl)) (by intro _; rfl)) (@pw_and _ _ _ _ _ _ _ (@pt_cmpR _ _ _ _ _ _ _ _ op_eq (@pe_callB _ _ _ _ _ _ _ _ _ call_len_seq rfl B.ilen PySem.boot_len (@pa_cons _ _ _ _ _ (@pv _ 3 _ _ (by rfl) (by first | exact Or.inl rfl | exact Or.inr ( Or.inl rfl ) | exact Or.inr ( Or.inr rfl )) (by decide) (by decide)) pa_nil (by rfl)) (by decide) (by decide) (by rfl) (by rfl)) pe_int (nomark _)) (@pw_and1 _ _ _ _ (@pt_val _ _ _ (@pe_cal _ _ _ _ _ _ _ _ _ _ _ C_is_sign hr (by omega) rfl (@pa_cons _ _ _ _ _ (@pe_ix _ _ _ _ _ _ _ ix_tup (@pv _ 3 _ _ (by rfl) (by first | exact Or.inl rfl | exact Or.inr ( Or.inl rfl ) | exact Or.inr ( Or.inr rfl )) (by decide) (by decide)) pe_int (fun _ _ => rfl)) pa_nil (by rfl)) (by decide) (by rfl) (by rfl)) (by intro _; rfl)))))) (@pss_cons _ _ _ _ _ (@ps_expr _ _ _ _ (@pe_bm _ _ _ _ _ _ _ _ _ _ _ _ PySem.F.plainAttrs_list PySem.F.slot_list_append PySem.F.type_list_append mt_append (@pv _ 1 _ _ (by rfl) (by first | exact Or.inl rfl | exact Or.inr ( Or.inl rfl ) | exact Or.inr ( Or.inr rfl )) (by decide) (by decide)) (@pa_cons _ _ _ _ _ (@pe_ix _ _ _ _ _ _ _ ix_tup (@pv _ 3 _ _ (by rfl) (by first | exact Or.inl rfl | exact Or.inr ( Or.inl rfl ) | exact Or.inr ( Or.inr rfl )) (by decide) (by decide)) pe_int (fun _ _ => rfl)) pa_nil (by rfl)) (by rfl) (by rfl) (by rfl) (by rfl) (by rfl)) (by rfl)) (@pss_one _ _ _ (@ps_expr _ _ _ _ (@pe_bm _ _ _ _ _ _ _ _ _ _ _ _ PySem.F.plainAttrs_list PySem.F.slot_list_append PySem.F.type_list_append mt_append (@pv _ 1 _ _ (by rfl) (by first | exact Or.inl rfl | exact Or.inr ( Or.inl rfl ) | exact Or.inr ( Or.inr rfl )) (by decide) (by decide)) (@pa_cons _ _ _ _ _ (@pe_ix _ _ _ _ _ _ _ ix_tup (@pv _ 3 _ _ (by rfl) (by first | exact Or.inl rfl | exact Or.inr ( Or.inl rfl ) | exact Or.inr ( Or.inr rfl )) (by decide) (by decide)) pe_int (fun _ _ => rfl)) pa_nil (by rfl)) (by rfl) (by rfl) (by rfl) (by rfl) (by rfl)) (by rfl)))) (@pss_one _ _ _ (@ps_ret _ _ _ _ pe_bl)))))))) (@pss_one _ _ _ (@ps_ret _ _ _ _ (pe_notT (pv 1))))))), ?_⟩
  refine ⟨_, rfl, (by show 1 ≤ sizeLine; decide), fun p hp => ?_⟩
  refine ⟨fun m σ H' => ∃ (n : Nat) (ws : List Wy) (vs : List V) (part : Option V), σ = [some v, some (.ref p), some (.int n), part] ∧ H' p = some (.lst vs) ∧ WyAll H' ws vs ∧ Same H H' ∧ n + sizes ws ≤ 9 ∧ m = knotss ws, ?_, ?_⟩
  · exact ⟨_, 0, [wy], [v], _, rfl, upd_same, .cons (hw.mono (Tups.of (Same.new hp _))) .nil, Same.new hp _, by simpa [sizes] using h9, rfl⟩
  rintro m σ H' ⟨n, ws, vs, part, rfl, hH, hall, hS, hn, rfl⟩
  by_cases ne : vs = []
  · subst ne
    refine ⟨_, rfl, false, .inl ⟨[], SqL.of hH, rfl⟩, iteF (iteF ?_)⟩
    exact ⟨_, rfl, false, .inl ⟨[], SqL.of hH, rfl⟩, q H' hS⟩
  obtain ⟨ws', w', vs', v', rfl, rfl, hall', hw'⟩ := hall.last ne
  have hl := hall.length
  have hle := length_le_sizes (ws' ++ [w'])
  rw [sizes_snoc] at hn hle
  have hlen : ((n : Int) + ((vs' ++ [v']).length : Nat) ≤ 9) := by omega
  refine ⟨_, rfl, true, .inl ⟨_, SqL.of hH, by simp⟩, iteT ⟨_, rfl, _, rfl, p, _, rfl, .inl (SqL.of hH), _, _, rfl, rfl, _, _, rfl, rfl, true, congrArg V.bl (decide_eq_true hlen), iteT ⟨fun σ' H' => ∃ m', m' < knotss (ws' ++ [w']) ∧ _, fun _ _ h => h, ?_⟩⟩⟩
  refine ⟨_, rfl, .inl ⟨rfl, _, SqL.of hH⟩, p, _, v', rfl, rfl, hH, last_at _ _, ?_⟩
  rw [trunc]
  have hT : Tups H' (upd H' p (.lst vs')) := fun b xs z => by rw [upd_ne (fun e => by rw [e, hH] at z; cases z)]; exact z
  have hp0 : H p = none := hp
  have hS2 : Same H (upd H' p (.lst vs')) := hS.upd hp0
  rw [knotss_snoc]
  cases w' with
  | num i =>
    cases hw'
    refine ⟨_, rfl, _, "int", rfl, .int i, true, rfl, iteT ⟨_, rfl, _, _, rfl, rfl, ?_⟩⟩
    refine ⟨knotss ws', Nat.lt_succ_self _, n + 1, ws', vs', _, rfl, upd_same, hall'.mono hT, hS2, ?_, rfl⟩
    have : n + (sizes ws' + 1) ≤ 9 := hn
    omega
  | node g l r =>
    obtain ⟨a, vl, vr, rfl, ha, hl', hr'⟩ := hw'
    have ha2 : upd H' p (.lst vs') a = some (.tup [.str g.str, vl, vr]) := hT _ _ ha
    refine ⟨_, rfl, _, "tuple", rfl, .tup ha2, false, rfl, iteF ?_⟩
    refine ⟨_, rfl, _, _, true, rfl, .tup ha2, rfl, true, rfl, iteT ⟨_, rfl, a, _, rfl, .inr (SqT.of ha2), rfl, _, rfl, iteT ?_⟩⟩
    refine ⟨_, rfl, a, _, _, _, rfl, rfl, SqT.of ha2, rfl, _, rfl, true, congrArg V.bl (isSg_str g), iteT ?_⟩
    have hsz : vs'.length ≤ 9 := by
      have := hall'.length
      have z := length_le_sizes ws'
      omega
    refine ⟨_, rfl, .inl ⟨rfl, _, SqL.of upd_same⟩, _, rfl, a, _, _, _, rfl, rfl, SqT.of ha2, rfl, p, _, _, rfl, rfl, upd_same, (small1000 (by omega)), ?_⟩
    have hT2 : Tups (upd H' p (.lst vs')) (upd (upd H' p (.lst vs')) p (.lst (vs' ++ [vl]))) := fun b xs z => by rw [upd_ne (fun e => by rw [e, upd_same] at z; cases z)]; exact z
    refine ⟨_, rfl, .inl ⟨rfl, _, SqL.of upd_same⟩, _, rfl, a, _, _, _, rfl, rfl, SqT.of (hT2 _ _ ha2), rfl, p, _, _, rfl, rfl, upd_same, (small1000 (by rw [List.length_append, List.length_singleton]; omega)), ?_⟩
    have hT3 : Tups (upd (upd H' p (.lst vs')) p (.lst (vs' ++ [vl]))) (upd (upd (upd H' p (.lst vs')) p (.lst (vs' ++ [vl]))) p (.lst (vs' ++ [vl] ++ [vr]))) := fun b xs z => by rw [upd_ne (fun e => by rw [e, upd_same] at z; cases z)]; exact z
    have hTT := (hT.trans hT2).trans hT3
    refine ⟨knotss (ws' ++ [l] ++ [r]), ?_, n, ws' ++ [l] ++ [r], vs' ++ [vl] ++ [vr], _, rfl, upd_same, ((hall'.mono hTT).snoc (hl'.mono hTT)).snoc (hr'.mono hTT), (hS2.upd hp0).upd hp0, ?_, rfl⟩
    · rw [knotss_snoc, knotss_snoc]
      show knotss ws' + l.knots + r.knots < knotss ws' + (l.knots + r.knots + 1)
      omega
    · rw [sizes_snoc, sizes_snoc]
      have : n + (sizes ws' + (l.size + r.size)) ≤ 9 := hn
      omega
def spNeedWay : Sp := fun vs H Q _ => ∃ w v, vs = [v] ∧ WyIn H w v ∧ w.size ≤ 9 ∧ ∀ H', Same H H' → Q .non H'
abbrev s_need_way : Stmt := top 10
theorem sc_need_way : FnScope ["thing"] ["thing"] (defScope s_need_way) := ⟨rfl, rfl, rfl, by decide +kernel, rfl, by decide +kernel, by decide +kernel⟩
theorem ok_need_way (F : Fun K "need_way" "need_way" s_need_way f fd) (C_is_way : Cal P w K mg base "is_way" 2 ["thing"] spIsWay) : FnOk P w K mg base CX0 3 f fd ["thing"] spNeedWay := by
  refine F.ok sc_need_way (fun vs H Q E h => ?_) (fun cdv A outer s H vs Q E hr h => ?_)
  · obtain ⟨x, v, rfl, _⟩ := h
    rfl
  obtain ⟨wy, v, rfl, hw, h9, q⟩ := h
  refine ⟨_, (@pss_one _ _ _ (@ps_if _ _ _ _ _ _ _ _ (@pt_not _ _ _ _ (@pt_val _ _ _ (@pe_cal _ _ _ _ _ _ _ _ _ _ _ C_is_way hr (by omega) rfl (@pa_cons _ _ _ _ _ (@pv _ 0 _ _ (by rfl) (by first | exact Or.inl rfl | exact Or.inr ( Or.inl rfl ) | exact Or.inr ( Or.inr rfl )) (by decide) (by decide)) pa_nil (by rfl)) (by decide) (by rfl) (by rfl)) (by intro _; rfl))) (@pss_one _ _ _ ps_never) pss_nil)), ?_⟩
  exact ⟨_, rfl, wy, v, rfl, hw, h9, fun H' hS => ⟨true, rfl, iteF (q H' hS)⟩⟩
def Wy.nums : Wy → List Int
  | .num i => [i]
  | .node _ l r => l.nums ++ r.nums
theorem Wy.nums_len : ∀ w : Wy, w.nums.length = w.size
  | .num _ => rfl
  | .node _ l r => by show (l.nums ++ r.nums).length = l.size + r.size; rw [List.length_append, l.nums_len, r.nums_len]
def Wy.deep : Wy → Nat
  | .num _ => 1
  | .node _ l r => max l.deep r.deep + 1
theorem Wy.deep_le : ∀ w : Wy, w.deep ≤ w.size
  | .num _ => Nat.le_refl _
  | .node _ l r => by have a := l.deep_le; have b := r.deep_le; have c := l.size_pos; have d := r.size_pos; show max l.deep r.deep + 1 ≤ l.size + r.size; omega
theorem sg_len (g : Sg) : g.str.length = 1 := by cases g <;> rfl
theorem str_len (x y : Str) : (x ++ y).length = x.length + y.length := by
  cases x; cases y
  show (_ ++ _ : Array Nat).size = _
  rw [Array.size_append]; rfl
end
end Put
set_option Elab.async false
set_option linter.all false
set_option maxRecDepth 100000
set_option maxHeartbeats 4000000
namespace Put
open PySem L2
def Wel (H : Hp) (w : Addr) (_M : Int) : Prop := ∃ a b, H w = some (.lst [.int a, .int b]) ∧ 0 ≤ b ∧ b < 2147483629
theorem Wel.keep {H H' : Hp} {w : Addr} {M M' : Int} (h : Wel H w M) (s : Same H H') (m : M ≤ M') : Wel H' w M' := by
  obtain ⟨a, b, e, h0, h1⟩ := h
  exact ⟨a, b, s _ _ e, h0, h1⟩
theorem Wel.more {H : Hp} {w : Addr} {M M' : Int} (h : Wel H w M) (m : M ≤ M') : Wel H w M' := h.keep (Same.refl H) m
theorem But.free {w p : Addr} {H H' : Hp} {M : Int} (b : But w H H') (h : Wel H' w M) (n : H' p = none) : H p = none := by
  cases q : H p with
  | none => rfl
  | some o =>
    by_cases e : p = w
    · subst e
      obtain ⟨_, _, z, _⟩ := h
      rw [z] at n; cases n
    · rw [b p o e q] at n; cases n
theorem Wel.ne {w p : Addr} {H : Hp} {M : Int} (h : Wel H w M) (n : H p = none) : p ≠ w := fun e => by
  subst e
  obtain ⟨_, _, z, _⟩ := h
  rw [z] at n; cases n
theorem Wel.tups {w : Addr} {H H' : Hp} {M : Int} (h : Wel H w M) (b : But w H H') : Tups H H' := by
  obtain ⟨_, _, z, _⟩ := h
  exact Tups.but b z
section
variable {P : Program} {w : World} {K : PySem.W.Frag} {mg : Str → Option Value} {base : Heap} {f : Addr} {fd : FuncData}
theorem mod_b (x m : Int) (h : 0 < m) : 0 ≤ x % m ∧ x % m < m := ⟨Int.emod_nonneg x (by omega), Int.emod_lt_of_pos x h⟩
def spWell : Sp := fun vs H Q _ => ∃ cell, vs = [.int cell] ∧ ∀ p H', Same H H' → H p = none → Wel H' p 0 → Q (.ref p) H'
abbrev s__law_well : Stmt := top 32
theorem sc__law_well : FnScope ["cell"] ["cell"] (defScope s__law_well) := ⟨rfl, rfl, rfl, by decide +kernel, rfl, by decide +kernel, by decide +kernel⟩
theorem ok_well (F : Fun K "_law_well" "_law_well" s__law_well f fd) (B : Bu K mg) : FnOk P w K mg base CX0 1 f fd ["cell"] spWell := by
  refine F.ok sc__law_well (fun vs H Q E h => ?_) (fun cdv A outer s H vs Q E hr h => ?_)
  · obtain ⟨x, rfl, _⟩ := h
    rfl
  obtain ⟨cell, rfl, q⟩ := h
  refine ⟨_, (@pss_cons _ _ _ _ _ (@ps_if _ _ _ _ _ _ _ _ (@pt_cmpR _ _ _ _ _ _ _ _ op_ge (@pv _ 0 _ _ (by rfl) (by first | exact Or.inl rfl | exact Or.inr ( Or.inl rfl ) | exact Or.inr ( Or.inr rfl )) (by decide) (by decide)) (@pe_op _ _ _ _ _ _ _ _ op_pow pe_int pe_int) (nomark _)) (@pss_one _ _ _ (@ps_ret _ _ _ _ (@pe_lst _ _ _ _ (@pa_cons _ _ _ _ _ (@pv _ 0 _ _ (by rfl) (by first | exact Or.inl rfl | exact Or.inr ( Or.inl rfl ) | exact Or.inr ( Or.inr rfl )) (by decide) (by decide)) (@pa_cons _ _ _ _ _ (@pe_op _ _ _ _ _ _ _ _ op_mod (@pv _ 0 _ _ (by rfl) (by first | exact Or.inl rfl | exact Or.inr ( Or.inl rfl ) | exact Or.inr ( Or.inr rfl )) (by decide) (by decide)) pe_int) pa_nil (by rfl)) (by rfl))))) pss_nil) (@pss_one _ _ _ (@ps_ret _ _ _ _ (@pe_lst _ _ _ _ (@pa_cons _ _ _ _ _ pe_int (@pa_cons _ _ _ _ _ (@pe_op _ _ _ _ _ _ _ _ op_mod (@pv _ 0 _ _ (by rfl) (by first | exact Or.inl rfl | exact Or.inr ( Or.inl rfl ) | exact Or.inr ( Or.inr rfl )) (by decide) (by decide)) pe_int) pa_nil (by rfl)) (by rfl)))))), ?_⟩
  have z := mod_b cell 2147483629 (by decide)
  refine ⟨_, rfl, _, _, rfl, rfl, ⟨by decide, by decide, by decide⟩, _, _, rfl, rfl, _, rfl, ite2 (fun _ => ?_) (fun _ => ?_)⟩
  · exact ⟨_, rfl, _, rfl, _, _, rfl, rfl, (show (0 : Int) < 2147483629 by decide), (by show 2 ≤ sizeLine; decide), fun p hp => q p _ (Same.new hp _) hp ⟨_, _, upd_same, z.1, z.2⟩⟩
  · exact ⟨_, rfl, _, _, rfl, rfl, (show (0 : Int) < 2147483629 by decide), (by show 2 ≤ sizeLine; decide), fun p hp => q p _ (Same.new hp _) hp ⟨_, _, upd_same, z.1, z.2⟩⟩
def spDraw : Sp := fun vs H Q _ => ∃ w m M, vs = [.ref w, .int m] ∧ 0 < m ∧ m < 2 ^ 63 ∧ Wel H w M ∧ M < 1000000000 ∧ ∀ r H', 0 ≤ r → r < m → But w H H' → Wel H' w (M + 1) → Q (.int r) H'
abbrev s__law_draw : Stmt := top 33
theorem sc__law_draw : FnScope ["well", "many", "got", "stirred"] ["well", "many"] (defScope s__law_draw) := ⟨rfl, rfl, rfl, by decide +kernel, rfl, by decide +kernel, by decide +kernel⟩
theorem ok_draw (F : Fun K "_law_draw" "_law_draw" s__law_draw f fd) : FnOk P w K mg base CX0 2 f fd ["well", "many"] spDraw := by
  refine F.ok sc__law_draw (fun vs H Q E h => ?_) (fun cdv A outer s H vs Q E hr h => ?_)
  · obtain ⟨x, m, M, rfl, _⟩ := h
    rfl
  obtain ⟨wl, m, M, rfl, h0, h1, ⟨a, b, e, c0, c1⟩, hM, q⟩ := h
  refine ⟨_, (@pss_cons _ _ _ _ _ (@ps_if _ _ _ _ _ _ _ _ (@pt_cmpR _ _ _ _ _ _ _ _ op_gt (@pe_ix _ _ _ _ _ _ _ ix_list (@pv _ 0 _ _ (by rfl) (by first | exact Or.inl rfl | exact Or.inr ( Or.inl rfl ) | exact Or.inr ( Or.inr rfl )) (by decide) (by decide)) pe_int (fun _ _ => rfl)) pe_int (nomark _)) (@pss_cons _ _ _ _ _ (@ps_set _ _ (2) _ _ _ _ (sc__law_draw).nd rfl (Or.inl rfl) (@pe_op _ _ _ _ _ _ _ _ op_mod (@pe_ix _ _ _ _ _ _ _ ix_list (@pv _ 0 _ _ (by rfl) (by first | exact Or.inl rfl | exact Or.inr ( Or.inl rfl ) | exact Or.inr ( Or.inr rfl )) (by decide) (by decide)) pe_int (fun _ _ => rfl)) (@pv _ 1 _ _ (by rfl) (by first | exact Or.inl rfl | exact Or.inr ( Or.inl rfl ) | exact Or.inr ( Or.inr rfl )) (by decide) (by decide))) (by rfl) (by first | exact .inl rfl | exact .inr rfl | assumption)) (@pss_cons _ _ _ _ _ (@ps_asg _ _ _ _ _ _ (@pe_op _ _ _ _ _ _ _ _ op_fdivB (@pe_ix _ _ _ _ _ _ _ ix_list (@pv _ 0 _ _ (by rfl) (by first | exact Or.inl rfl | exact Or.inr ( Or.inl rfl ) | exact Or.inr ( Or.inr rfl )) (by decide) (by decide)) pe_int (fun _ _ => rfl)) (@pv _ 1 _ _ (by rfl) (by first | exact Or.inl rfl | exact Or.inr ( Or.inl rfl ) | exact Or.inr ( Or.inr rfl )) (by decide) (by decide))) (@pg_sub _ _ _ _ _ _ _ (@pv _ 0 _ _ (by rfl) (by first | exact Or.inl rfl | exact Or.inr ( Or.inl rfl ) | exact Or.inr ( Or.inr rfl )) (by decide) (by decide)) pe_int set_list (by intro _; rfl)) (by rfl) (by rfl) (by rfl)) (@pss_one _ _ _ (@ps_ret _ _ _ _ (@pv _ 2 _ _ (by rfl) (by first | exact Or.inl rfl | exact Or.inr ( Or.inl rfl ) | exact Or.inr ( Or.inr rfl )) (by decide) (by decide)))))) pss_nil) (@pss_cons _ _ _ _ _ (@ps_set _ _ (3) _ _ _ _ (sc__law_draw).nd rfl (Or.inl rfl) (@pe_op _ _ _ _ _ _ _ _ op_mod (@pe_op _ _ _ _ _ _ _ _ op_add (@pe_op _ _ _ _ _ _ _ _ op_mul (@pe_ix _ _ _ _ _ _ _ ix_list (@pv _ 0 _ _ (by rfl) (by first | exact Or.inl rfl | exact Or.inr ( Or.inl rfl ) | exact Or.inr ( Or.inr rfl )) (by decide) (by decide)) pe_int (fun _ _ => rfl)) pe_int) pe_int) pe_int) (by rfl) (by first | exact .inl rfl | exact .inr rfl | assumption)) (@pss_cons _ _ _ _ _ (@ps_set _ _ (3) _ _ _ _ (sc__law_draw).nd rfl (Or.inl rfl) (@pe_op _ _ _ _ _ _ _ _ op_mod (@pe_op _ _ _ _ _ _ _ _ op_mul (@pv _ 3 _ _ (by rfl) (by first | exact Or.inl rfl | exact Or.inr ( Or.inl rfl ) | exact Or.inr ( Or.inr rfl )) (by decide) (by decide)) (@pv _ 3 _ _ (by rfl) (by first | exact Or.inl rfl | exact Or.inr ( Or.inl rfl ) | exact Or.inr ( Or.inr rfl )) (by decide) (by decide))) pe_int) (by rfl) (by first | exact .inl rfl | exact .inr rfl | assumption)) (@pss_cons _ _ _ _ _ (@ps_asg _ _ _ _ _ _ (@pe_op _ _ _ _ _ _ _ _ op_mod (@pe_op _ _ _ _ _ _ _ _ op_add (@pe_op _ _ _ _ _ _ _ _ op_mul (@pv _ 3 _ _ (by rfl) (by first | exact Or.inl rfl | exact Or.inr ( Or.inl rfl ) | exact Or.inr ( Or.inr rfl )) (by decide) (by decide)) pe_int) pe_int) pe_int) (@pg_sub _ _ _ _ _ _ _ (@pv _ 0 _ _ (by rfl) (by first | exact Or.inl rfl | exact Or.inr ( Or.inl rfl ) | exact Or.inr ( Or.inr rfl )) (by decide) (by decide)) pe_int set_list (by intro _; rfl)) (by rfl) (by rfl) (by rfl)) (@pss_one _ _ _ (@ps_ret _ _ _ _ (@pe_op _ _ _ _ _ _ _ _ op_mod (@pe_op _ _ _ _ _ _ _ _ op_fdivB (@pe_ix _ _ _ _ _ _ _ ix_list (@pv _ 0 _ _ (by rfl) (by first | exact Or.inl rfl | exact Or.inr ( Or.inl rfl ) | exact Or.inr ( Or.inr rfl )) (by decide) (by decide)) pe_int (fun _ _ => rfl)) pe_int) (@pv _ 1 _ _ (by rfl) (by first | exact Or.inl rfl | exact Or.inr ( Or.inl rfl ) | exact Or.inr ( Or.inr rfl )) (by decide) (by decide))))))))), ?_⟩
  refine ⟨_, rfl, wl, _, _, _, rfl, rfl, SqL.of e, rfl, _, _, rfl, rfl, _, rfl, ite2 (fun _ => ?_) (fun _ => ?_)⟩
  · refine ⟨_, rfl, wl, _, _, _, rfl, rfl, SqL.of e, rfl, _, rfl, _, _, rfl, rfl, h0, ?_⟩
    refine ⟨_, rfl, wl, _, _, _, rfl, rfl, SqL.of e, rfl, _, rfl, _, _, rfl, rfl, ⟨h0, by omega⟩, _, rfl, wl, _, _, 0, rfl, rfl, e, rfl, ?_⟩
    refine ⟨_, rfl, ?_⟩
    have z := mod_b a m h0
    exact q _ _ z.1 z.2 But.put ⟨_, _, upd_same, c0, c1⟩
  · refine ⟨_, rfl, wl, _, _, _, rfl, rfl, SqL.of e, rfl, _, _, rfl, rfl, .inr ⟨by decide, by decide⟩, _, _, rfl, rfl, _, _, rfl, rfl, (show (0 : Int) < 2147483647 by decide), ?_⟩
    refine ⟨_, rfl, _, rfl, _, _, rfl, rfl, .inl ⟨by omega, by omega⟩, _, _, rfl, rfl, (show (0 : Int) < 2147483587 by decide), ?_⟩
    refine ⟨_, rfl, _, _, rfl, rfl, .inr ⟨by decide, by decide⟩, _, _, rfl, rfl, _, _, rfl, rfl, (show (0 : Int) < 2147483629 by decide), _, rfl, wl, _, _, 1, rfl, rfl, e, rfl, ?_⟩
    have hd := mod_b ((b * 48271 + 11) % 2147483647 * ((b * 48271 + 11) % 2147483647) % 2147483587 * 69621 + 40692) 2147483629 (by decide)
    refine ⟨_, rfl, wl, _, _, _, rfl, rfl, SqL.of upd_same, rfl, _, _, rfl, rfl, ⟨by decide, by decide⟩, _, rfl, _, _, rfl, rfl, h0, ?_⟩
    have z := mod_b (((b * 48271 + 11) % 2147483647 * ((b * 48271 + 11) % 2147483647) % 2147483587 * 69621 + 40692) % 2147483629 / 8) m h0
    exact q _ _ z.1 z.2 But.put ⟨_, _, upd_same, hd.1, hd.2⟩
end
end Put
set_option Elab.async false
set_option linter.all false
set_option maxRecDepth 100000
set_option maxHeartbeats 4000000
namespace Put
open PySem L2
section
variable {P : Program} {w : World} {K : PySem.W.Frag} {mg : Str → Option Value} {base : Heap} {f : Addr} {fd : FuncData}
def Small (ns : List Int) : Prop := ∀ i ∈ ns, -1000000000000 < i ∧ i < 1000000000000
def spRow : Sp := fun vs H Q _ => ∃ w n M, vs = [.ref w, .int n] ∧ 0 ≤ n ∧ n ≤ 20 ∧ Wel H w M ∧ M < 999990000 ∧
  ∀ p ns H', But w H H' → Wel H' w (M + 400) → H p = none → H' p = some (.lst (ns.map V.int)) → (ns.length : Int) = n → Small ns → Q (.ref p) H'
theorem pick_int {xs : List Int} {r : Int} (h0 : 0 ≤ r) (h1 : r < xs.length) : ∃ u : Int, atI (xs.map V.int) r = some (.int u) ∧ u ∈ xs := by
  obtain ⟨j, rfl⟩ : ∃ j : Nat, r = (j : Int) := ⟨r.toNat, by omega⟩
  have hj : j < xs.length := by omega
  exact ⟨xs[j], atI_nat (by rw [List.getElem?_map, List.getElem?_eq_getElem hj]; rfl), List.getElem_mem hj⟩
theorem pm {k : Int} (h0 : 0 ≤ k) (h1 : k < 2) : ∃ z : Int, atI [V.int 1, .int (-1)] k = some (.int z) ∧ (z = 1 ∨ z = -1) := by
  have : k = 0 ∨ k = 1 := by omega
  rcases this with rfl | rfl
  · exact ⟨1, rfl, .inl rfl⟩
  · exact ⟨-1, rfl, .inr rfl⟩
theorem p4 {k : Int} (h0 : 0 ≤ k) (h1 : k < 4) : ∃ z : Int, atI [V.int (10 ^ (4 : Int).toNat), .int (10 ^ (6 : Int).toNat), .int (10 ^ (9 : Int).toNat), .int (10 ^ (12 : Int).toNat)] k = some (.int z) ∧ 0 < z ∧ z ≤ 1000000000000 := by
  have : k = 0 ∨ k = 1 ∨ k = 2 ∨ k = 3 := by omega
  rcases this with rfl | rfl | rfl | rfl <;> exact ⟨_, rfl, by decide, by decide⟩
abbrev s__law_row : Stmt := top 34
theorem sc__law_row : FnScope ["well", "many", "kind", "found", "k", "some", "wide", "own"] ["well", "many"] (defScope s__law_row) := ⟨rfl, rfl, rfl, by decide +kernel, rfl, by decide +kernel, by decide +kernel⟩
theorem ok_row (F : Fun K "_law_row" "_law_row" s__law_row f fd) (B : Bu K mg) (C__law_draw : Cal P w K mg base "_law_draw" 2 ["well", "many"] spDraw) : FnOk P w K mg base CX0 3 f fd ["well", "many"] spRow := by
  refine F.ok sc__law_row (fun vs H Q E h => ?_) (fun cdv A outer s H vs Q E hr h => ?_)
  · obtain ⟨x, m, M, rfl, _⟩ := h
    rfl
  obtain ⟨wl, n, M, rfl, h0, h1, hw, hM, q⟩ := h
  refine ⟨_, (@pss_cons _ _ _ _ _ (@ps_set _ _ (2) _ _ _ _ (sc__law_row).nd rfl (Or.inl rfl) (@pe_cal _ _ _ _ _ _ _ _ _ _ _ C__law_draw hr (by omega) rfl (@pa_cons _ _ _ _ _ (@pv _ 0 _ _ (by rfl) (by first | exact Or.inl rfl | exact Or.inr ( Or.inl rfl ) | exact Or.inr ( Or.inr rfl )) (by decide) (by decide)) (@pa_cons _ _ _ _ _ pe_int pa_nil (by rfl)) (by rfl)) (by decide) (by rfl) (by rfl)) (by rfl) (by first | exact .inl rfl | exact .inr rfl | assumption)) (@pss_cons _ _ _ _ _ (@ps_set _ _ (3) _ _ _ _ (sc__law_row).nd rfl (Or.inl rfl) (@pe_lst _ _ _ _ pa_nil) (by rfl) (by first | exact .inl rfl | exact .inr rfl | assumption)) (@pss_cons _ _ _ _ _ (@ps_for _ _ _ _ _ _ _ _ PassesOwn.never rfl (@pi_range1 _ _ _ _ _ _ rfl B.irange (@pa_cons _ _ _ _ _ (@pv _ 1 _ _ (by rfl) (by first | exact Or.inl rfl | exact Or.inr ( Or.inl rfl ) | exact Or.inr ( Or.inr rfl )) (by decide) (by decide)) pa_nil (by rfl)) (by rfl)) (@pg_name _ _ (4) _ (sc__law_row).nd rfl (Or.inl rfl) (by first | exact .inl rfl | exact .inr rfl | assumption)) (@pss_cons _ _ _ _ _ (@ps_set _ _ (5) _ _ _ _ (sc__law_row).nd rfl (Or.inl rfl) (@pe_lst _ _ _ _ (@pa_cons _ _ _ _ _ (@pe_cal _ _ _ _ _ _ _ _ _ _ _ C__law_draw hr (by omega) rfl (@pa_cons _ _ _ _ _ (@pv _ 0 _ _ (by rfl) (by first | exact Or.inl rfl | exact Or.inr ( Or.inl rfl ) | exact Or.inr ( Or.inr rfl )) (by decide) (by decide)) (@pa_cons _ _ _ _ _ pe_int pa_nil (by rfl)) (by rfl)) (by decide) (by rfl) (by rfl)) (@pa_cons _ _ _ _ _ (@pe_op _ _ _ _ _ _ _ _ op_sub (@pe_cal _ _ _ _ _ _ _ _ _ _ _ C__law_draw hr (by omega) rfl (@pa_cons _ _ _ _ _ (@pv _ 0 _ _ (by rfl) (by first | exact Or.inl rfl | exact Or.inr ( Or.inl rfl ) | exact Or.inr ( Or.inr rfl )) (by decide) (by decide)) (@pa_cons _ _ _ _ _ pe_int pa_nil (by rfl)) (by rfl)) (by decide) (by rfl) (by rfl)) pe_int) (@pa_cons _ _ _ _ _ (@pe_op _ _ _ _ _ _ _ _ op_sub (@pe_cal _ _ _ _ _ _ _ _ _ _ _ C__law_draw hr (by omega) rfl (@pa_cons _ _ _ _ _ (@pv _ 0 _ _ (by rfl) (by first | exact Or.inl rfl | exact Or.inr ( Or.inl rfl ) | exact Or.inr ( Or.inr rfl )) (by decide) (by decide)) (@pa_cons _ _ _ _ _ pe_int pa_nil (by rfl)) (by rfl)) (by decide) (by rfl) (by rfl)) pe_int) (@pa_cons _ _ _ _ _ (@pe_op _ _ _ _ _ _ _ _ op_sub (@pe_cal _ _ _ _ _ _ _ _ _ _ _ C__law_draw hr (by omega) rfl (@pa_cons _ _ _ _ _ (@pv _ 0 _ _ (by rfl) (by first | exact Or.inl rfl | exact Or.inr ( Or.inl rfl ) | exact Or.inr ( Or.inr rfl )) (by decide) (by decide)) (@pa_cons _ _ _ _ _ pe_int pa_nil (by rfl)) (by rfl)) (by decide) (by rfl) (by rfl)) pe_int) pa_nil (by rfl)) (by rfl)) (by rfl)) (by rfl))) (by rfl) (by first | exact .inl rfl | exact .inr rfl | assumption)) (@pss_cons _ _ _ _ _ (@ps_set _ _ (5) _ _ _ _ (sc__law_row).nd rfl (Or.inl rfl) (@pe_op _ _ _ _ _ _ _ _ op_cat (@pv _ 5 _ _ (by rfl) (by first | exact Or.inl rfl | exact Or.inr ( Or.inl rfl ) | exact Or.inr ( Or.inr rfl )) (by decide) (by decide)) (@pe_lst _ _ _ _ (@pa_cons _ _ _ _ _ (@pe_op _ _ _ _ _ _ _ _ op_mul (@pe_op _ _ _ _ _ _ _ _ op_sub (@pe_op _ _ _ _ _ _ _ _ op_sub (@pe_op _ _ _ _ _ _ _ _ op_pow pe_int pe_int) pe_int) (@pe_cal _ _ _ _ _ _ _ _ _ _ _ C__law_draw hr (by omega) rfl (@pa_cons _ _ _ _ _ (@pv _ 0 _ _ (by rfl) (by first | exact Or.inl rfl | exact Or.inr ( Or.inl rfl ) | exact Or.inr ( Or.inr rfl )) (by decide) (by decide)) (@pa_cons _ _ _ _ _ pe_int pa_nil (by rfl)) (by rfl)) (by decide) (by rfl) (by rfl))) (@pe_ix _ _ _ _ _ _ _ ix_list (@pe_lst _ _ _ _ (@pa_cons _ _ _ _ _ pe_int (@pa_cons _ _ _ _ _ (@pe_un _ _ _ _ _ _ un_neg pe_int) pa_nil (by rfl)) (by rfl))) (@pe_cal _ _ _ _ _ _ _ _ _ _ _ C__law_draw hr (by omega) rfl (@pa_cons _ _ _ _ _ (@pv _ 0 _ _ (by rfl) (by first | exact Or.inl rfl | exact Or.inr ( Or.inl rfl ) | exact Or.inr ( Or.inr rfl )) (by decide) (by decide)) (@pa_cons _ _ _ _ _ pe_int pa_nil (by rfl)) (by rfl)) (by decide) (by rfl) (by rfl)) (fun _ _ => rfl))) (@pa_cons _ _ _ _ _ (@pe_op _ _ _ _ _ _ _ _ op_add pe_int (@pe_cal _ _ _ _ _ _ _ _ _ _ _ C__law_draw hr (by omega) rfl (@pa_cons _ _ _ _ _ (@pv _ 0 _ _ (by rfl) (by first | exact Or.inl rfl | exact Or.inr ( Or.inl rfl ) | exact Or.inr ( Or.inr rfl )) (by decide) (by decide)) (@pa_cons _ _ _ _ _ pe_int pa_nil (by rfl)) (by rfl)) (by decide) (by rfl) (by rfl))) pa_nil (by rfl)) (by rfl)))) (by rfl) (by first | exact .inl rfl | exact .inr rfl | assumption)) (@pss_cons _ _ _ _ _ (@ps_set _ _ (6) _ _ _ _ (sc__law_row).nd rfl (Or.inl rfl) (@pe_op _ _ _ _ _ _ _ _ op_add (@pe_op _ _ _ _ _ _ _ _ op_mul (@pe_cal _ _ _ _ _ _ _ _ _ _ _ C__law_draw hr (by omega) rfl (@pa_cons _ _ _ _ _ (@pv _ 0 _ _ (by rfl) (by first | exact Or.inl rfl | exact Or.inr ( Or.inl rfl ) | exact Or.inr ( Or.inr rfl )) (by decide) (by decide)) (@pa_cons _ _ _ _ _ (@pe_op _ _ _ _ _ _ _ _ op_pow pe_int pe_int) pa_nil (by rfl)) (by rfl)) (by decide) (by rfl) (by rfl)) (@pe_op _ _ _ _ _ _ _ _ op_pow pe_int pe_int)) (@pe_cal _ _ _ _ _ _ _ _ _ _ _ C__law_draw hr (by omega) rfl (@pa_cons _ _ _ _ _ (@pv _ 0 _ _ (by rfl) (by first | exact Or.inl rfl | exact Or.inr ( Or.inl rfl ) | exact Or.inr ( Or.inr rfl )) (by decide) (by decide)) (@pa_cons _ _ _ _ _ (@pe_op _ _ _ _ _ _ _ _ op_pow pe_int pe_int) pa_nil (by rfl)) (by rfl)) (by decide) (by rfl) (by rfl))) (by rfl) (by first | exact .inl rfl | exact .inr rfl | assumption)) (@pss_cons _ _ _ _ _ (@ps_set _ _ (6) _ _ _ _ (sc__law_row).nd rfl (Or.inl rfl) (@pe_op _ _ _ _ _ _ _ _ op_mul (@pe_op _ _ _ _ _ _ _ _ op_mod (@pv _ 6 _ _ (by rfl) (by first | exact Or.inl rfl | exact Or.inr ( Or.inl rfl ) | exact Or.inr ( Or.inr rfl )) (by decide) (by decide)) (@pe_ix _ _ _ _ _ _ _ ix_list (@pe_lst _ _ _ _ (@pa_cons _ _ _ _ _ (@pe_op _ _ _ _ _ _ _ _ op_pow pe_int pe_int) (@pa_cons _ _ _ _ _ (@pe_op _ _ _ _ _ _ _ _ op_pow pe_int pe_int) (@pa_cons _ _ _ _ _ (@pe_op _ _ _ _ _ _ _ _ op_pow pe_int pe_int) (@pa_cons _ _ _ _ _ (@pe_op _ _ _ _ _ _ _ _ op_pow pe_int pe_int) pa_nil (by rfl)) (by rfl)) (by rfl)) (by rfl))) (@pe_cal _ _ _ _ _ _ _ _ _ _ _ C__law_draw hr (by omega) rfl (@pa_cons _ _ _ _ _ (@pv _ 0 _ _ (by rfl) (by first | exact Or.inl rfl | exact Or.inr ( Or.inl rfl ) | exact Or.inr ( Or.inr rfl )) (by decide) (by decide)) (@pa_cons _ _ _ _ _ pe_int pa_nil (by rfl)) (by rfl)) (by decide) (by rfl) (by rfl)) (fun _ _ => rfl))) (@pe_ix _ _ _ _ _ _ _ ix_list (@pe_lst _ _ _ _ (@pa_cons _ _ _ _ _ pe_int (@pa_cons _ _ _ _ _ (@pe_un _ _ _ _ _ _ un_neg pe_int) pa_nil (by rfl)) (by rfl))) (@pe_cal _ _ _ _ _ _ _ _ _ _ _ C__law_draw hr (by omega) rfl (@pa_cons _ _ _ _ _ (@pv _ 0 _ _ (by rfl) (by first | exact Or.inl rfl | exact Or.inr ( Or.inl rfl ) | exact Or.inr ( Or.inr rfl )) (by decide) (by decide)) (@pa_cons _ _ _ _ _ pe_int pa_nil (by rfl)) (by rfl)) (by decide) (by rfl) (by rfl)) (fun _ _ => rfl))) (by rfl) (by first | exact .inl rfl | exact .inr rfl | assumption)) (@pss_cons _ _ _ _ _ (@ps_set _ _ (7) _ _ _ _ (sc__law_row).nd rfl (Or.inl rfl) (@pe_cal _ _ _ _ _ _ _ _ _ _ _ C__law_draw hr (by omega) rfl (@pa_cons _ _ _ _ _ (@pv _ 0 _ _ (by rfl) (by first | exact Or.inl rfl | exact Or.inr ( Or.inl rfl ) | exact Or.inr ( Or.inr rfl )) (by decide) (by decide)) (@pa_cons _ _ _ _ _ pe_int pa_nil (by rfl)) (by rfl)) (by decide) (by rfl) (by rfl)) (by rfl) (by first | exact .inl rfl | exact .inr rfl | assumption)) (@pss_one _ _ _ (@ps_expr _ _ _ _ (@pe_bm _ _ _ _ _ _ _ _ _ _ _ _ PySem.F.plainAttrs_list PySem.F.slot_list_append PySem.F.type_list_append mt_append (@pv _ 3 _ _ (by rfl) (by first | exact Or.inl rfl | exact Or.inr ( Or.inl rfl ) | exact Or.inr ( Or.inr rfl )) (by decide) (by decide)) (@pa_cons _ _ _ _ _ (@pe_ix _ _ _ _ _ _ _ ix_list (@pe_op _ _ _ _ _ _ _ _ op_cat (@pv _ 5 _ _ (by rfl) (by first | exact Or.inl rfl | exact Or.inr ( Or.inl rfl ) | exact Or.inr ( Or.inr rfl )) (by decide) (by decide)) (@pe_lst _ _ _ _ (@pa_cons _ _ _ _ _ (@pe_ix _ _ _ _ _ _ _ ix_list (@pe_op _ _ _ _ _ _ _ _ op_cat (@pv _ 3 _ _ (by rfl) (by first | exact Or.inl rfl | exact Or.inr ( Or.inl rfl ) | exact Or.inr ( Or.inr rfl )) (by decide) (by decide)) (@pv _ 5 _ _ (by rfl) (by first | exact Or.inl rfl | exact Or.inr ( Or.inl rfl ) | exact Or.inr ( Or.inr rfl )) (by decide) (by decide))) pe_int (fun _ _ => rfl)) (@pa_cons _ _ _ _ _ (@pv _ 6 _ _ (by rfl) (by first | exact Or.inl rfl | exact Or.inr ( Or.inl rfl ) | exact Or.inr ( Or.inr rfl )) (by decide) (by decide)) pa_nil (by rfl)) (by rfl)))) (@pe_ix _ _ _ _ _ _ _ ix_list (@pe_lst _ _ _ _ (@pa_cons _ _ _ _ _ (@pv _ 2 _ _ (by rfl) (by first | exact Or.inl rfl | exact Or.inr ( Or.inl rfl ) | exact Or.inr ( Or.inr rfl )) (by decide) (by decide)) (@pa_cons _ _ _ _ _ (@pv _ 7 _ _ (by rfl) (by first | exact Or.inl rfl | exact Or.inr ( Or.inl rfl ) | exact Or.inr ( Or.inr rfl )) (by decide) (by decide)) pa_nil (by rfl)) (by rfl))) (@pe_callTy _ _ _ _ _ _ _ _ _ call_int1 rfl B.iint PyProof.Rows.boot_int (@pa_cons _ _ _ _ _ (@pe_cmpR _ _ _ _ _ _ _ _ op_eq (@pv _ 2 _ _ (by rfl) (by first | exact Or.inl rfl | exact Or.inr ( Or.inl rfl ) | exact Or.inr ( Or.inr rfl )) (by decide) (by decide)) pe_int (nomark _)) pa_nil (by rfl)) (by decide) (by decide) (by rfl) (by rfl)) (fun _ _ => rfl)) (fun _ _ => rfl)) pa_nil (by rfl)) (by rfl) (by rfl) (by rfl) (by rfl) (by rfl)) (by rfl)))))))) (by intro _; rfl)) (@pss_one _ _ _ (@ps_ret _ _ _ _ (@pv _ 3 _ _ (by rfl) (by first | exact Or.inl rfl | exact Or.inr ( Or.inl rfl ) | exact Or.inr ( Or.inr rfl )) (by decide) (by decide))))))), ?_⟩
  have t1 : (1 : Nat) ≤ sizeLine := by decide
  have t2 : (2 : Nat) ≤ sizeLine := by decide
  have t4 : (4 : Nat) ≤ sizeLine := by decide
  refine ⟨_, rfl, wl, 9, _, rfl, by decide, by decide, hw, by omega, fun kd H1 kd0 kd1 g1 w1 => ?_⟩
  refine ⟨(by show 0 ≤ sizeLine; decide), fun pf nf => ?_⟩
  have nfw := w1.ne nf
  have hfree : H pf = none := But.free g1 w1 nf
  refine ⟨_, rfl, n, rfl, by omega, by omega, for_range (n := n.toNat) (fun j σ H' => ∃ (ns : List Int) (c4 c5 c6 c7 : Option V), σ = [some (.ref wl), some (.int n), some (.int kd), some (.ref pf), c4, c5, c6, c7] ∧ H' pf = some (.lst (ns.map V.int)) ∧ ns.length = j ∧ Small ns ∧ But wl H1 H' ∧ Wel H' wl (M + 1 + 15 * j)) ⟨[], _, _, _, _, rfl, upd_same, rfl, (fun _ z => nomatch z), But.new nf _, (w1.keep (Same.new nf _) (Int.le_refl _)).more (by omega)⟩ ?_ ?_⟩
  · rintro j σ K0 hj ⟨ns, c4, c5, c6, c7, rfl, ef, hl, hs, bb, u0⟩
    refine ⟨_, rfl, wl, 10, _, rfl, by decide, by decide, u0, by omega, fun r1 K1 r1a r1b b0 u1 => ?_⟩
    refine ⟨_, rfl, wl, 3, _, rfl, by decide, by decide, u1, by omega, fun r2 K2 r2a r2b b1 u2 => ⟨_, _, rfl, rfl, ?_⟩⟩
    refine ⟨_, rfl, wl, 13, _, rfl, by decide, by decide, u2, by omega, fun r3 K3 r3a r3b b2 u3 => ⟨_, _, rfl, rfl, ?_⟩⟩
    refine ⟨_, rfl, wl, 1999, _, rfl, by decide, by decide, u3, by omega, fun r4 K4 r4a r4b b3 u4 => ⟨_, _, rfl, rfl, ?_⟩⟩
    refine ⟨t4, fun q1 m1 => ?_⟩
    have y4 := Same.new m1 (.lst [V.int r1, .int (r2 - 1), .int (r3 - 6), .int (r4 - 999)])
    have nq_q1 := u4.ne m1
    have u5 := u4.keep y4 (Int.le_refl _)
    have e_q1 := upd_same (H := K4) (a := q1) (o := .lst [V.int r1, .int (r2 - 1), .int (r3 - 6), .int (r4 - 999)])
    revert y4 u5 e_q1
    generalize upd K4 q1 (.lst [V.int r1, .int (r2 - 1), .int (r3 - 6), .int (r4 - 999)]) = K5
    intro y4 u5 e_q1
    have b4 : But wl K4 K5 := But.of y4
    refine ⟨_, rfl, 10, 12, rfl, rfl, ⟨by decide, by decide, by decide⟩, _, _, rfl, rfl, ?_⟩
    refine ⟨_, rfl, wl, 99, _, rfl, by decide, by decide, u5, by omega, fun r5 K6 r5a r5b b5 u6 => ⟨_, _, rfl, rfl, ?_⟩⟩
    refine ⟨_, rfl, t2, fun q2 m2 => ?_⟩
    have y6 := Same.new m2 (.lst [V.int 1, .int (-1)])
    have nq_q2 := u6.ne m2
    have u7 := u6.keep y6 (Int.le_refl _)
    have e_q2 := upd_same (H := K6) (a := q2) (o := .lst [V.int 1, .int (-1)])
    revert y6 u7 e_q2
    generalize upd K6 q2 (.lst [V.int 1, .int (-1)]) = K7
    intro y6 u7 e_q2
    have b6 : But wl K6 K7 := But.of y6
    refine ⟨_, rfl, wl, 2, _, rfl, by decide, by decide, u7, by omega, fun r6 K8 r6a r6b b7 u8 => ?_⟩
    obtain ⟨s1, hs1, vs1⟩ := pm r6a r6b
    have p12 : (10 : Int) ^ (12 : Int).toNat = 1000000000000 := by decide
    rw [p12]
    refine ⟨q2, _, _, _, rfl, rfl, SqL.of (b7 _ _ nq_q2 e_q2), hs1, _, _, rfl, rfl, .inr ⟨by omega, by omega⟩, ?_⟩
    refine ⟨_, rfl, wl, 9, _, rfl, by decide, by decide, u8, by omega, fun r7 K9 r7a r7b b8 u9 => ⟨_, _, rfl, rfl, ?_⟩⟩
    refine ⟨t2, fun q3 m3 => ?_⟩
    have y9 := Same.new m3 (.lst [V.int ((1000000000000 - 1 - r5) * s1), .int (1 + r7)])
    have nq_q3 := u9.ne m3
    have u10 := u9.keep y9 (Int.le_refl _)
    have e_q3 := upd_same (H := K9) (a := q3) (o := .lst [V.int ((1000000000000 - 1 - r5) * s1), .int (1 + r7)])
    revert y9 u10 e_q3
    generalize upd K9 q3 (.lst [V.int ((1000000000000 - 1 - r5) * s1), .int (1 + r7)]) = K10
    intro y9 u10 e_q3
    have b9 : But wl K9 K10 := But.of y9
    refine ⟨q1, q3, _, _, rfl, rfl, ((b5.trans (b6.trans (b7.trans (b8.trans b9)))) _ _ nq_q1 e_q1), e_q3, le_line (by show 4 + 2 ≤ 1000; decide), fun q4 m4 => ?_⟩
    have y10 := Same.new m4 (.lst ([V.int r1, .int (r2 - 1), .int (r3 - 6), .int (r4 - 999)] ++ [V.int ((1000000000000 - 1 - r5) * s1), .int (1 + r7)]))
    have nq_q4 := u10.ne m4
    have u11 := u10.keep y10 (Int.le_refl _)
    have e_q4 := upd_same (H := K10) (a := q4) (o := .lst ([V.int r1, .int (r2 - 1), .int (r3 - 6), .int (r4 - 999)] ++ [V.int ((1000000000000 - 1 - r5) * s1), .int (1 + r7)]))
    revert y10 u11 e_q4
    generalize upd K10 q4 (.lst ([V.int r1, .int (r2 - 1), .int (r3 - 6), .int (r4 - 999)] ++ [V.int ((1000000000000 - 1 - r5) * s1), .int (1 + r7)])) = K11
    intro y10 u11 e_q4
    have b10 : But wl K10 K11 := But.of y10
    have p6 : (10 : Int) ^ (6 : Int).toNat = 1000000 := by decide
    refine ⟨_, rfl, 10, 6, rfl, rfl, ⟨by decide, by decide, by decide⟩, wl, _, _, rfl, (by decide), (by decide), u11, by omega, fun r8 K12 r8a r8b b11 u12 => ⟨10, 6, rfl, rfl, ⟨by decide, by decide, by decide⟩, _, _, rfl, rfl, .inr ⟨by decide, by decide⟩, ?_⟩⟩
    refine ⟨_, rfl, 10, 6, rfl, rfl, ⟨by decide, by decide, by decide⟩, wl, _, _, rfl, (by decide), (by decide), u12, by omega, fun r9 K13 r9a r9b b12 u13 => ⟨_, _, rfl, rfl, ?_⟩⟩
    refine ⟨_, rfl, 10, 4, rfl, rfl, ⟨by decide, by decide, by decide⟩, 10, 6, rfl, rfl, ⟨by decide, by decide, by decide⟩, 10, 9, rfl, rfl, ⟨by decide, by decide, by decide⟩, 10, 12, rfl, rfl, ⟨by decide, by decide, by decide⟩, t4, fun q5 m5 => ?_⟩
    have y13 := Same.new m5 (.lst [V.int (10 ^ (4 : Int).toNat), .int (10 ^ (6 : Int).toNat), .int (10 ^ (9 : Int).toNat), .int (10 ^ (12 : Int).toNat)])
    have nq_q5 := u13.ne m5
    have u14 := u13.keep y13 (Int.le_refl _)
    have e_q5 := upd_same (H := K13) (a := q5) (o := .lst [V.int (10 ^ (4 : Int).toNat), .int (10 ^ (6 : Int).toNat), .int (10 ^ (9 : Int).toNat), .int (10 ^ (12 : Int).toNat)])
    revert y13 u14 e_q5
    generalize upd K13 q5 (.lst [V.int (10 ^ (4 : Int).toNat), .int (10 ^ (6 : Int).toNat), .int (10 ^ (9 : Int).toNat), .int (10 ^ (12 : Int).toNat)]) = K14
    intro y13 u14 e_q5
    have b13 : But wl K13 K14 := But.of y13
    refine ⟨_, rfl, wl, 4, _, rfl, by decide, by decide, u14, by omega, fun r10 K15 r10a r10b b14 u15 => ?_⟩
    obtain ⟨md, hmd, md0, md1⟩ := p4 r10a r10b
    refine ⟨q5, _, _, _, rfl, rfl, SqL.of (b14 _ _ nq_q5 e_q5), hmd, _, _, rfl, rfl, md0, _, rfl, t2, fun q6 m6 => ?_⟩
    have y15 := Same.new m6 (.lst [V.int 1, .int (-1)])
    have nq_q6 := u15.ne m6
    have u16 := u15.keep y15 (Int.le_refl _)
    have e_q6 := upd_same (H := K15) (a := q6) (o := .lst [V.int 1, .int (-1)])
    revert y15 u16 e_q6
    generalize upd K15 q6 (.lst [V.int 1, .int (-1)]) = K16
    intro y15 u16 e_q6
    have b15 : But wl K15 K16 := But.of y15
    refine ⟨_, rfl, wl, 2, _, rfl, by decide, by decide, u16, by omega, fun r11 K17 r11a r11b b16 u17 => ?_⟩
    obtain ⟨s2, hs2, vs2⟩ := pm r11a r11b
    have hwd := mod_b (r8 * 10 ^ (6 : Int).toNat + r9) md md0
    refine ⟨q6, _, _, _, rfl, rfl, SqL.of (b16 _ _ nq_q6 e_q6), hs2, _, _, rfl, rfl, .inr ⟨by omega, by omega⟩, ?_⟩
    refine ⟨_, rfl, wl, 8, _, rfl, by decide, by decide, u17, by omega, fun r12 K18 r12a r12b b17 u18 => ?_⟩
    refine ⟨_, rfl, .inl ⟨rfl, _, SqL.of ((b0.trans (b1.trans (b2.trans (b3.trans (b4.trans (b5.trans (b6.trans (b7.trans (b8.trans (b9.trans (b10.trans (b11.trans (b12.trans (b13.trans (b14.trans (b15.trans (b16.trans b17))))))))))))))))) _ _ nfw ef)⟩, _, rfl, _, rfl, _, rfl, ?_⟩
    refine ⟨pf, q4, _, _, rfl, rfl, ((b0.trans (b1.trans (b2.trans (b3.trans (b4.trans (b5.trans (b6.trans (b7.trans (b8.trans (b9.trans (b10.trans (b11.trans (b12.trans (b13.trans (b14.trans (b15.trans (b16.trans b17))))))))))))))))) _ _ nfw ef), ((b11.trans (b12.trans (b13.trans (b14.trans (b15.trans (b16.trans b17)))))) _ _ nq_q4 e_q4), le_line (by rw [List.length_map]; show _ + 6 ≤ 1000; omega), fun q7 m7 => ?_⟩
    have eall : ns.map V.int ++ ([V.int r1, .int (r2 - 1), .int (r3 - 6), .int (r4 - 999)] ++ [V.int ((1000000000000 - 1 - r5) * s1), .int (1 + r7)]) = (ns ++ [r1, r2 - 1, r3 - 6, r4 - 999, (1000000000000 - 1 - r5) * s1, 1 + r7]).map V.int := by rw [List.map_append]; rfl
    rw [eall]
    have y18 := Same.new m7 (.lst ((ns ++ [r1, r2 - 1, r3 - 6, r4 - 999, (1000000000000 - 1 - r5) * s1, 1 + r7]).map V.int))
    have nq_q7 := u18.ne m7
    have u19 := u18.keep y18 (Int.le_refl _)
    have e_q7 := upd_same (H := K18) (a := q7) (o := .lst ((ns ++ [r1, r2 - 1, r3 - 6, r4 - 999, (1000000000000 - 1 - r5) * s1, 1 + r7]).map V.int))
    revert y18 u19 e_q7
    generalize upd K18 q7 (.lst ((ns ++ [r1, r2 - 1, r3 - 6, r4 - 999, (1000000000000 - 1 - r5) * s1, 1 + r7]).map V.int)) = K19
    intro y18 u19 e_q7
    have b18 : But wl K18 K19 := But.of y18
    obtain ⟨x0, hx0, mx0⟩ := pick_int (xs := (ns ++ [r1, r2 - 1, r3 - 6, r4 - 999, (1000000000000 - 1 - r5) * s1, 1 + r7])) (r := 0) (by decide) (by rw [List.length_append]; simp only [List.length_cons, List.length_nil]; omega)
    refine ⟨q7, _, _, _, rfl, rfl, SqL.of e_q7, hx0, _, rfl, t2, fun q8 m8 => ?_⟩
    have y19 := Same.new m8 (.lst [V.int x0, .int ((r8 * 10 ^ (6 : Int).toNat + r9) % md * s2)])
    have nq_q8 := u19.ne m8
    have u20 := u19.keep y19 (Int.le_refl _)
    have e_q8 := upd_same (H := K19) (a := q8) (o := .lst [V.int x0, .int ((r8 * 10 ^ (6 : Int).toNat + r9) % md * s2)])
    revert y19 u20 e_q8
    generalize upd K19 q8 (.lst [V.int x0, .int ((r8 * 10 ^ (6 : Int).toNat + r9) % md * s2)]) = K20
    intro y19 u20 e_q8
    have b19 : But wl K19 K20 := But.of y19
    refine ⟨q4, q8, _, _, rfl, rfl, ((b11.trans (b12.trans (b13.trans (b14.trans (b15.trans (b16.trans (b17.trans (b18.trans b19)))))))) _ _ nq_q4 e_q4), e_q8, le_line (by show 6 + 2 ≤ 1000; decide), fun q9 m9 => ?_⟩
    have e8 : [V.int r1, .int (r2 - 1), .int (r3 - 6), .int (r4 - 999)] ++ [V.int ((1000000000000 - 1 - r5) * s1), .int (1 + r7)] ++ [V.int x0, .int ((r8 * 10 ^ (6 : Int).toNat + r9) % md * s2)] = ([r1, r2 - 1, r3 - 6, r4 - 999, (1000000000000 - 1 - r5) * s1, 1 + r7, x0, (r8 * 10 ^ (6 : Int).toNat + r9) % md * s2] : List Int).map V.int := rfl
    rw [e8]
    have y20 := Same.new m9 (.lst (([r1, r2 - 1, r3 - 6, r4 - 999, (1000000000000 - 1 - r5) * s1, 1 + r7, x0, (r8 * 10 ^ (6 : Int).toNat + r9) % md * s2] : List Int).map V.int))
    have nq_q9 := u20.ne m9
    have u21 := u20.keep y20 (Int.le_refl _)
    have e_q9 := upd_same (H := K20) (a := q9) (o := .lst (([r1, r2 - 1, r3 - 6, r4 - 999, (1000000000000 - 1 - r5) * s1, 1 + r7, x0, (r8 * 10 ^ (6 : Int).toNat + r9) % md * s2] : List Int).map V.int))
    revert y20 u21 e_q9
    generalize upd K20 q9 (.lst (([r1, r2 - 1, r3 - 6, r4 - 999, (1000000000000 - 1 - r5) * s1, 1 + r7, x0, (r8 * 10 ^ (6 : Int).toNat + r9) % md * s2] : List Int).map V.int)) = K21
    intro y20 u21 e_q9
    have b20 : But wl K20 K21 := But.of y20
    refine ⟨_, rfl, _, rfl, t2, fun qa ma => ?_⟩
    have y21 := Same.new ma (.lst [V.int kd, .int r12])
    have nq_qa := u21.ne ma
    have u22 := u21.keep y21 (Int.le_refl _)
    have e_qa := upd_same (H := K21) (a := qa) (o := .lst [V.int kd, .int r12])
    revert y21 u22 e_qa
    generalize upd K21 qa (.lst [V.int kd, .int r12]) = K22
    intro y21 u22 e_qa
    have b21 : But wl K21 K22 := But.of y21
    have ix : ∃ z : Int, atI [V.int kd, .int r12] (if decide (V.int kd = V.int 8) = true then 1 else 0) = some (.int z) ∧ 0 ≤ z ∧ z < 8 := by
      by_cases c : kd = 8
      · exact ⟨r12, by rw [decide_eq_true (by rw [c])]; rfl, r12a, r12b⟩
      · exact ⟨kd, by rw [decide_eq_false (fun e => c (by injection e))]; rfl, kd0, by omega⟩
    obtain ⟨zi, hzi, zi0, zi1⟩ := ix
    obtain ⟨el, hel, mel⟩ := pick_int (xs := [r1, r2 - 1, r3 - 6, r4 - 999, (1000000000000 - 1 - r5) * s1, 1 + r7, x0, (r8 * 10 ^ (6 : Int).toNat + r9) % md * s2]) zi0 zi1
    refine ⟨_, rfl, rfl, .inr ⟨_, rfl, qa, _, _, _, rfl, rfl, SqL.of e_qa, hzi, q9, _, _, _, rfl, rfl, SqL.of (b21 _ _ nq_q9 e_q9), hel, pf, _, _, rfl, rfl, ((b0.trans (b1.trans (b2.trans (b3.trans (b4.trans (b5.trans (b6.trans (b7.trans (b8.trans (b9.trans (b10.trans (b11.trans (b12.trans (b13.trans (b14.trans (b15.trans (b16.trans (b17.trans (b18.trans (b19.trans (b20.trans b21))))))))))))))))))))) _ _ nfw ef), small1000 (by rw [List.length_map]; omega), ?_⟩⟩
    have sm5 : -1000000000000 < (1000000000000 - 1 - r5) * s1 ∧ (1000000000000 - 1 - r5) * s1 < 1000000000000 := by rcases vs1 with rfl | rfl <;> omega
    have smw : -1000000000000 < (r8 * 10 ^ (6 : Int).toNat + r9) % md * s2 ∧ (r8 * 10 ^ (6 : Int).toNat + r9) % md * s2 < 1000000000000 := by rcases vs2 with rfl | rfl <;> omega
    have sm1 : ∀ x ∈ [r1, r2 - 1, r3 - 6, r4 - 999, (1000000000000 - 1 - r5) * s1, 1 + r7], -1000000000000 < x ∧ x < 1000000000000 := fun x hx => by
      simp only [List.mem_cons, List.not_mem_nil, or_false] at hx
      rcases hx with rfl | rfl | rfl | rfl | rfl | rfl <;> first | exact sm5 | omega
    have sx0 : -1000000000000 < x0 ∧ x0 < 1000000000000 := (List.mem_append.mp mx0).elim (hs x0) (sm1 x0)
    have sel : -1000000000000 < el ∧ el < 1000000000000 := by
      simp only [List.mem_cons, List.not_mem_nil, or_false] at mel
      rcases mel with rfl | rfl | rfl | rfl | rfl | rfl | rfl | rfl <;> first | exact sm5 | exact sx0 | exact smw | omega
    refine ⟨ns ++ [el], _, _, _, _, rfl, by rw [upd_same, List.map_append]; rfl, by rw [List.length_append, hl]; rfl, fun x hx => (List.mem_append.mp hx).elim (hs x) fun z => by rw [List.mem_singleton.mp z]; exact sel, ?_, ?_⟩
    · exact fun c o nc hc => by
        by_cases z : c = pf
        · subst z; rw [nf] at hc; cases hc
        · rw [upd_ne z]; exact (bb.trans (b0.trans (b1.trans (b2.trans (b3.trans (b4.trans (b5.trans (b6.trans (b7.trans (b8.trans (b9.trans (b10.trans (b11.trans (b12.trans (b13.trans (b14.trans (b15.trans (b16.trans (b17.trans (b18.trans (b19.trans (b20.trans b21)))))))))))))))))))))) c o nc hc
    · obtain ⟨wa, wb, we, wf, wg⟩ := u22
      exact ⟨wa, wb, by rw [upd_ne (Ne.symm nfw)]; exact we, wf, wg⟩
  · rintro σ K1 ⟨ns, c4, c5, c6, c7, rfl, ef, hl, hs, bb, u0⟩
    exact ⟨_, rfl, q pf ns K1 (g1.trans bb) (u0.more (by omega)) hfree ef (by omega) hs⟩
end
end Put
set_option Elab.async false
set_option linter.all false
set_option maxRecDepth 100000
set_option maxHeartbeats 2000000
namespace Put
open PySem L2
def Wy.os : Wy → Option Sg
  | .num _ => none
  | .node g _ _ => some g
def oStr : Option Sg → Str
  | none => ""
  | some g => g.str
def leftB : Sg → Option Sg → Bool
  | .times, some .plus => true
  | .times, some .minus => true
  | _, _ => false
def rightB : Sg → Option Sg → Bool
  | _, some .plus => true
  | _, some .minus => true
  | .times, some .times => true
  | _, _ => false
def b1 (b : Bool) : Int := if b then 1 else 0
def Wy.brk : Wy → Int
  | .num _ => 0
  | .node g l r => b1 (leftB g l.os) + b1 (rightB g r.os) + l.brk + r.brk
theorem in_pm (o : Option Sg) : inV (.str (oStr o)) [.str "+", .str "-"] = leftB .times o := by
  cases o with
  | none => decide +kernel
  | some g => cases g <;> decide +kernel
theorem is_times (g : Sg) : decide (V.str g.str = V.str "*") = decide (g = .times) := by cases g <;> decide +kernel
theorem is_timesO (o : Option Sg) : decide (V.str (oStr o) = V.str "*") = decide (o = some .times) := by
  cases o with
  | none => decide +kernel
  | some g => cases g <;> decide +kernel
section
variable {P : Program} {w : World} {K : PySem.W.Frag} {mg : Str → Option Value} {base : Heap} {f : Addr} {fd : FuncData}
def spLeft : Sp := fun vs H Q _ => ∃ g o, vs = [.str (Sg.str g), .str (oStr o)] ∧ ∀ H', Same H H' → Q (.bl (leftB g o)) H'
abbrev s_left_in_brackets : Stmt := top 15
theorem sc_left_in_brackets : FnScope ["sign", "left_sign"] ["sign", "left_sign"] (defScope s_left_in_brackets) := ⟨rfl, rfl, rfl, by decide +kernel, rfl, by decide +kernel, by decide +kernel⟩
theorem ok_left (F : Fun K "left_in_brackets" "left_in_brackets" s_left_in_brackets f fd) : FnOk P w K mg base CX0 1 f fd ["sign", "left_sign"] spLeft := by
  refine F.ok sc_left_in_brackets (fun vs H Q E h => ?_) (fun cdv A outer s H vs Q E hr h => ?_)
  · obtain ⟨g, o, rfl, _⟩ := h
    rfl
  obtain ⟨g, o, rfl, q⟩ := h
  refine ⟨_, (@pss_one _ _ _ (@ps_ret _ _ _ _ (@pe_and _ _ _ _ _ _ _ (@pe_cmpR _ _ _ _ _ _ _ _ op_eq (@pv _ 0 _ _ (by rfl) (by first | exact Or.inl rfl | exact Or.inr ( Or.inl rfl ) | exact Or.inr ( Or.inr rfl )) (by decide) (by decide)) pe_str (nomark _)) (@pe_one _ _ _ _ _ (@pe_cmpR _ _ _ _ _ _ _ _ op_in_seq (@pv _ 1 _ _ (by rfl) (by first | exact Or.inl rfl | exact Or.inr ( Or.inl rfl ) | exact Or.inr ( Or.inr rfl )) (by decide) (by decide)) (@pe_tup _ _ _ _ _ (@pa_cons _ _ _ _ _ pe_str (@pa_cons _ _ _ _ _ pe_str pa_nil (by rfl)) (by rfl))) (by with_unfolding_all rfl)))))), ?_⟩
  by_cases c : g = .times
  · subst c
    refine ⟨_, rfl, rfl, true, rfl, iteT ⟨_, rfl, (by show 2 ≤ sizeLine; decide), fun p n => ⟨p, _, rfl, .inr (SqT.of upd_same), rfl, rfl, ?_⟩⟩⟩
    have := q _ (Same.new n (.tup [.str "+", .str "-"]))
    rw [← in_pm] at this; exact this
  · refine ⟨_, rfl, rfl, false, ?_, iteF ?_⟩
    · rw [is_times, decide_eq_false c]
    · have := q H (Same.refl _)
      have e : leftB g o = false := by cases g <;> first | rfl | exact absurd rfl c
      rw [e] at this; exact this
def spRightB : Sp := fun vs H Q _ => ∃ g o, vs = [.str (Sg.str g), .str (oStr o)] ∧ ∀ H', Same H H' → Q (.bl (rightB g o)) H'
abbrev s_right_in_brackets : Stmt := top 16
theorem sc_right_in_brackets : FnScope ["sign", "right_sign"] ["sign", "right_sign"] (defScope s_right_in_brackets) := ⟨rfl, rfl, rfl, by decide +kernel, rfl, by decide +kernel, by decide +kernel⟩
theorem ok_rightB (F : Fun K "right_in_brackets" "right_in_brackets" s_right_in_brackets f fd) : FnOk P w K mg base CX0 1 f fd ["sign", "right_sign"] spRightB := by
  refine F.ok sc_right_in_brackets (fun vs H Q E h => ?_) (fun cdv A outer s H vs Q E hr h => ?_)
  · obtain ⟨g, o, rfl, _⟩ := h
    rfl
  obtain ⟨g, o, rfl, q⟩ := h
  refine ⟨_, (@pss_one _ _ _ (@ps_ret _ _ _ _ (@pe_or _ _ _ _ _ _ _ (@pe_cmpR _ _ _ _ _ _ _ _ op_in_seq (@pv _ 1 _ _ (by rfl) (by first | exact Or.inl rfl | exact Or.inr ( Or.inl rfl ) | exact Or.inr ( Or.inr rfl )) (by decide) (by decide)) (@pe_tup _ _ _ _ _ (@pa_cons _ _ _ _ _ pe_str (@pa_cons _ _ _ _ _ pe_str pa_nil (by rfl)) (by rfl))) (by with_unfolding_all rfl)) (@pe_one _ _ _ _ _ (@pe_and _ _ _ _ _ _ _ (@pe_cmpR _ _ _ _ _ _ _ _ op_eq (@pv _ 0 _ _ (by rfl) (by first | exact Or.inl rfl | exact Or.inr ( Or.inl rfl ) | exact Or.inr ( Or.inr rfl )) (by decide) (by decide)) pe_str (nomark _)) (@pe_one _ _ _ _ _ (@pe_cmpR _ _ _ _ _ _ _ _ op_eq (@pv _ 1 _ _ (by rfl) (by first | exact Or.inl rfl | exact Or.inr ( Or.inl rfl ) | exact Or.inr ( Or.inr rfl )) (by decide) (by decide)) pe_str (nomark _)))))))), ?_⟩
  refine ⟨_, rfl, (by show 2 ≤ sizeLine; decide), fun p n => ⟨p, _, rfl, .inr (SqT.of upd_same), rfl, rfl, ?_⟩⟩
  have q' := q _ (Same.new n (.tup [.str "+", .str "-"]))
  have e0 := in_pm o
  cases hb : leftB .times o with
  | true =>
    rw [hb] at e0
    refine ⟨true, congrArg V.bl e0, iteT ?_⟩
    have e : rightB g o = true := by
      cases o with
      | none => cases hb
      | some x => cases x <;> first | (cases g <;> rfl) | exact absurd hb (by decide)
    rw [e] at q'; exact q'
  | false =>
    rw [hb] at e0
    refine ⟨false, congrArg V.bl e0, iteF ?_⟩
    by_cases c : g = .times
    · subst c
      refine ⟨_, rfl, rfl, true, rfl, iteT ⟨_, rfl, rfl, ?_⟩⟩
      have e : rightB .times o = decide (o = some .times) := by
        cases o with
        | none => rfl
        | some x => cases x <;> first | rfl | exact absurd hb (by decide)
      rw [e, ← is_timesO] at q'; exact q'
    · refine ⟨_, rfl, rfl, false, ?_, iteF ?_⟩
      · rw [is_times, decide_eq_false c]
      · have e : rightB g o = false := by
          cases o with
          | none => cases g <;> rfl
          | some x => cases x <;> cases g <;> first | rfl | exact absurd rfl c | exact absurd hb (by decide)
        rw [e] at q'; exact q'
def spAround : Sp := fun vs H Q _ => ∃ g ol or', vs = [.str (Sg.str g), .str (oStr ol), .str (oStr or')] ∧ ∀ H', Same H H' → Q (.int (b1 (leftB g ol) + b1 (rightB g or'))) H'
abbrev s_brackets_around : Stmt := top 14
theorem sc_brackets_around : FnScope ["sign", "left_sign", "right_sign", "pairs"] ["sign", "left_sign", "right_sign"] (defScope s_brackets_around) := ⟨rfl, rfl, rfl, by decide +kernel, rfl, by decide +kernel, by decide +kernel⟩
theorem ok_around (F : Fun K "brackets_around" "brackets_around" s_brackets_around f fd) (C_left_in_brackets : Cal P w K mg base "left_in_brackets" 1 ["sign", "left_sign"] spLeft) (C_right_in_brackets : Cal P w K mg base "right_in_brackets" 1 ["sign", "right_sign"] spRightB) : FnOk P w K mg base CX0 2 f fd ["sign", "left_sign", "right_sign"] spAround := by
  refine F.ok sc_brackets_around (fun vs H Q E h => ?_) (fun cdv A outer s H vs Q E hr h => ?_)
  · obtain ⟨g, ol, or', rfl, _⟩ := h
    rfl
  obtain ⟨g, ol, or', rfl, q⟩ := h
  refine ⟨_, (@pss_cons _ _ _ _ _ (@ps_set _ _ (3) _ _ _ _ (sc_brackets_around).nd rfl (Or.inl rfl) pe_int (by rfl) (by first | exact .inl rfl | exact .inr rfl | assumption)) (@pss_cons _ _ _ _ _ (@ps_if _ _ _ _ _ _ _ _ (@pt_val _ _ _ (@pe_cal _ _ _ _ _ _ _ _ _ _ _ C_left_in_brackets hr (by omega) rfl (@pa_cons _ _ _ _ _ (@pv _ 0 _ _ (by rfl) (by first | exact Or.inl rfl | exact Or.inr ( Or.inl rfl ) | exact Or.inr ( Or.inr rfl )) (by decide) (by decide)) (@pa_cons _ _ _ _ _ (@pv _ 1 _ _ (by rfl) (by first | exact Or.inl rfl | exact Or.inr ( Or.inl rfl ) | exact Or.inr ( Or.inr rfl )) (by decide) (by decide)) pa_nil (by rfl)) (by rfl)) (by decide) (by rfl) (by rfl)) (by intro _; rfl)) (@pss_one _ _ _ (@ps_aug _ _ (3) _ _ _ _ _ _ (sc_brackets_around).nd rfl (Or.inl rfl) pe_int ip_add (by first | exact .inl rfl | exact .inr rfl | assumption))) pss_nil) (@pss_cons _ _ _ _ _ (@ps_if _ _ _ _ _ _ _ _ (@pt_val _ _ _ (@pe_cal _ _ _ _ _ _ _ _ _ _ _ C_right_in_brackets hr (by omega) rfl (@pa_cons _ _ _ _ _ (@pv _ 0 _ _ (by rfl) (by first | exact Or.inl rfl | exact Or.inr ( Or.inl rfl ) | exact Or.inr ( Or.inr rfl )) (by decide) (by decide)) (@pa_cons _ _ _ _ _ (@pv _ 2 _ _ (by rfl) (by first | exact Or.inl rfl | exact Or.inr ( Or.inl rfl ) | exact Or.inr ( Or.inr rfl )) (by decide) (by decide)) pa_nil (by rfl)) (by rfl)) (by decide) (by rfl) (by rfl)) (by intro _; rfl)) (@pss_one _ _ _ (@ps_aug _ _ (3) _ _ _ _ _ _ (sc_brackets_around).nd rfl (Or.inl rfl) pe_int ip_add (by first | exact .inl rfl | exact .inr rfl | assumption))) pss_nil) (@pss_one _ _ _ (@ps_ret _ _ _ _ (@pv _ 3 _ _ (by rfl) (by first | exact Or.inl rfl | exact Or.inr ( Or.inl rfl ) | exact Or.inr ( Or.inr rfl )) (by decide) (by decide))))))), ?_⟩
  refine ⟨_, rfl, _, rfl, g, ol, rfl, fun H1 g1 => ?_⟩
  cases hl : leftB g ol with
  | true =>
    refine ⟨true, rfl, iteT ⟨_, rfl, _, _, rfl, rfl, ?_⟩⟩
    refine ⟨_, rfl, _, rfl, g, or', rfl, fun H2 g2 => ?_⟩
    have q' := q H2 (g1.trans g2)
    rw [hl] at q'
    cases hr2 : rightB g or' with
    | true => rw [hr2] at q'; exact ⟨true, rfl, iteT ⟨_, rfl, _, _, rfl, rfl, ⟨_, rfl, q'⟩⟩⟩
    | false => rw [hr2] at q'; exact ⟨false, rfl, iteF ⟨_, rfl, q'⟩⟩
  | false =>
    refine ⟨false, rfl, iteF ?_⟩
    refine ⟨_, rfl, _, rfl, g, or', rfl, fun H2 g2 => ?_⟩
    have q' := q H2 (g1.trans g2)
    rw [hl] at q'
    cases hr2 : rightB g or' with
    | true => rw [hr2] at q'; exact ⟨true, rfl, iteT ⟨_, rfl, _, _, rfl, rfl, ⟨_, rfl, q'⟩⟩⟩
    | false => rw [hr2] at q'; exact ⟨false, rfl, iteF ⟨_, rfl, q'⟩⟩
def spOwn : Sp := fun vs H Q _ => ∃ w v, vs = [v] ∧ WyIn H w v ∧ Q (.str (oStr w.os)) H
abbrev s_own_sign : Stmt := top 13
theorem sc_own_sign : FnScope ["way"] ["way"] (defScope s_own_sign) := ⟨rfl, rfl, rfl, by decide +kernel, rfl, by decide +kernel, by decide +kernel⟩
theorem ok_own (F : Fun K "own_sign" "own_sign" s_own_sign f fd) (C_is_whole : Cal P w K mg base "is_whole" 1 ["thing"] (spWhole K)) : FnOk P w K mg base CX0 2 f fd ["way"] spOwn := by
  refine F.ok sc_own_sign (fun vs H Q E h => ?_) (fun cdv A outer s H vs Q E hr h => ?_)
  · obtain ⟨wy, v, rfl, _⟩ := h
    rfl
  obtain ⟨wy, v, rfl, hw, q⟩ := h
  refine ⟨_, (@pss_one _ _ _ (@ps_ret _ _ _ _ (@pe_ifExp _ _ _ _ _ _ _ _ (@pt_val _ _ _ (@pe_cal _ _ _ _ _ _ _ _ _ _ _ C_is_whole hr (by omega) rfl (@pa_cons _ _ _ _ _ (@pv _ 0 _ _ (by rfl) (by first | exact Or.inl rfl | exact Or.inr ( Or.inl rfl ) | exact Or.inr ( Or.inr rfl )) (by decide) (by decide)) pa_nil (by rfl)) (by decide) (by rfl) (by rfl)) (by intro _; rfl)) pe_str (@pe_ix _ _ _ _ _ _ _ ix_tup (@pv _ 0 _ _ (by rfl) (by first | exact Or.inl rfl | exact Or.inr ( Or.inl rfl ) | exact Or.inr ( Or.inr rfl )) (by decide) (by decide)) pe_int (fun _ _ => rfl))))), ?_⟩
  cases wy with
  | num i =>
    cases hw
    exact ⟨_, rfl, _, "int", rfl, .int i, true, rfl, iteT q⟩
  | node g l r =>
    obtain ⟨a, vl, vr, rfl, ha, hl, hr'⟩ := hw
    exact ⟨_, rfl, _, "tuple", rfl, .tup ha, false, rfl, iteF ⟨_, rfl, a, _, _, _, rfl, rfl, SqT.of ha, rfl, q⟩⟩
def spCount (n : Nat) : Sp := fun vs H Q _ => ∃ w v, vs = [v] ∧ WyIn H w v ∧ w.deep ≤ n ∧ ∀ H', Same H H' → Q (.int w.brk) H'
abbrev s_count_brackets : Stmt := top 12
theorem sc_count_brackets : FnScope ["way", "sign", "left", "right"] ["way"] (defScope s_count_brackets) := ⟨rfl, rfl, rfl, by decide +kernel, rfl, by decide +kernel, by decide +kernel⟩
theorem ok_count (F : Fun K "count_brackets" "count_brackets" s_count_brackets f fd) (bF : Binds K fd ["way"] []) (mF : mg "count_brackets" = some (.ref f)) (C_is_whole : Cal P w K mg base "is_whole" 1 ["thing"] (spWhole K)) (C_own_sign : Cal P w K mg base "own_sign" 2 ["way"] spOwn)
    (C_brackets_around : Cal P w K mg base "brackets_around" 2 ["sign", "left_sign", "right_sign"] spAround) : ∀ n, FnOk P w K mg base CX0 (n + 3) f fd ["way"] (spCount n) := by
  intro n
  induction n with
  | zero =>
    refine ⟨fun vs H Q E h => ?_, fun A outer s H args us vs Q E _ _ _ _ h => ?_⟩
    · obtain ⟨x, v, rfl, _⟩ := h
      rfl
    · obtain ⟨wy, v, _, _, hd, _⟩ := h
      cases wy <;> exact absurd hd (by simp [Wy.deep])
  | succ n ih =>
    have C_count_brackets : Cal P w K mg base "count_brackets" (n + 3) ["way"] (spCount n) := ⟨f, fd, ih, bF, F.kp, mF⟩
    refine F.ok sc_count_brackets (fun vs H Q E h => ?_) (fun cdv A outer s H vs Q E hr h => ?_)
    · obtain ⟨x, v, rfl, _⟩ := h
      rfl
    obtain ⟨wy, v, rfl, hw, hd, q⟩ := h
    refine ⟨_, (@pss_cons _ _ _ _ _ (@ps_if _ _ _ _ _ _ _ _ (@pt_val _ _ _ (@pe_cal _ _ _ _ _ _ _ _ _ _ _ C_is_whole hr (by omega) rfl (@pa_cons _ _ _ _ _ (@pv _ 0 _ _ (by rfl) (by first | exact Or.inl rfl | exact Or.inr ( Or.inl rfl ) | exact Or.inr ( Or.inr rfl )) (by decide) (by decide)) pa_nil (by rfl)) (by decide) (by rfl) (by rfl)) (by intro _; rfl)) (@pss_one _ _ _ (@ps_ret _ _ _ _ pe_int)) pss_nil) (@pss_cons _ _ _ _ _ (@ps_asg _ _ _ _ _ _ (@pv _ 0 _ _ (by rfl) (by first | exact Or.inl rfl | exact Or.inr ( Or.inl rfl ) | exact Or.inr ( Or.inr rfl )) (by decide) (by decide)) (@pg_tup _ _ _ _ _ _ rfl (@pgs_cons _ _ _ _ _ (@pg_name _ _ (1) _ (sc_count_brackets).nd rfl (Or.inl rfl) (by first | exact .inl rfl | exact .inr rfl | assumption)) (@pgs_cons _ _ _ _ _ (@pg_name _ _ (2) _ (sc_count_brackets).nd rfl (Or.inl rfl) (by first | exact .inl rfl | exact .inr rfl | assumption)) (@pgs_cons _ _ _ _ _ (@pg_name _ _ (3) _ (sc_count_brackets).nd rfl (Or.inl rfl) (by first | exact .inl rfl | exact .inr rfl | assumption)) pgs_nil (by rfl)) (by rfl)) (by rfl)) (by rfl) (by rfl)) (by rfl) (by rfl) (by rfl)) (@pss_one _ _ _ (@ps_ret _ _ _ _ (@pe_op _ _ _ _ _ _ _ _ op_add (@pe_op _ _ _ _ _ _ _ _ op_add (@pe_cal _ _ _ _ _ _ _ _ _ _ _ C_brackets_around hr (by omega) rfl (@pa_cons _ _ _ _ _ (@pv _ 1 _ _ (by rfl) (by first | exact Or.inl rfl | exact Or.inr ( Or.inl rfl ) | exact Or.inr ( Or.inr rfl )) (by decide) (by decide)) (@pa_cons _ _ _ _ _ (@pe_cal _ _ _ _ _ _ _ _ _ _ _ C_own_sign hr (by omega) rfl (@pa_cons _ _ _ _ _ (@pv _ 2 _ _ (by rfl) (by first | exact Or.inl rfl | exact Or.inr ( Or.inl rfl ) | exact Or.inr ( Or.inr rfl )) (by decide) (by decide)) pa_nil (by rfl)) (by decide) (by rfl) (by rfl)) (@pa_cons _ _ _ _ _ (@pe_cal _ _ _ _ _ _ _ _ _ _ _ C_own_sign hr (by omega) rfl (@pa_cons _ _ _ _ _ (@pv _ 3 _ _ (by rfl) (by first | exact Or.inl rfl | exact Or.inr ( Or.inl rfl ) | exact Or.inr ( Or.inr rfl )) (by decide) (by decide)) pa_nil (by rfl)) (by decide) (by rfl) (by rfl)) pa_nil (by rfl)) (by rfl)) (by rfl)) (by decide) (by rfl) (by rfl)) (@pe_cal _ _ _ _ _ _ _ _ _ _ _ C_count_brackets hr (by omega) rfl (@pa_cons _ _ _ _ _ (@pv _ 2 _ _ (by rfl) (by first | exact Or.inl rfl | exact Or.inr ( Or.inl rfl ) | exact Or.inr ( Or.inr rfl )) (by decide) (by decide)) pa_nil (by rfl)) (by decide) (by rfl) (by rfl))) (@pe_cal _ _ _ _ _ _ _ _ _ _ _ C_count_brackets hr (by omega) rfl (@pa_cons _ _ _ _ _ (@pv _ 3 _ _ (by rfl) (by first | exact Or.inl rfl | exact Or.inr ( Or.inl rfl ) | exact Or.inr ( Or.inr rfl )) (by decide) (by decide)) pa_nil (by rfl)) (by decide) (by rfl) (by rfl))))))), ?_⟩
    cases wy with
    | num i =>
      cases hw
      exact ⟨_, rfl, _, "int", rfl, .int i, true, rfl, iteT (q H (Same.refl _))⟩
    | node g l r =>
      obtain ⟨a, vl, vr, rfl, ha, hl, hr'⟩ := hw
      refine ⟨_, rfl, _, "tuple", rfl, .tup ha, false, rfl, iteF ?_⟩
      have d : max l.deep r.deep + 1 ≤ n + 1 := hd
      refine ⟨_, rfl, a, _, rfl, SqT.of ha, rfl, _, _, rfl, _, _, rfl, _, _, rfl, rfl, ?_⟩
      refine ⟨_, rfl, _, rfl, l, vl, rfl, hl, _, rfl, r, vr, rfl, hr', g, l.os, r.os, rfl, fun H1 g1 => ?_⟩
      refine ⟨_, rfl, l, vl, rfl, hl.mono (Tups.of g1), by omega, fun H2 g2 => ⟨_, _, rfl, rfl, ?_⟩⟩
      refine ⟨_, rfl, r, vr, rfl, hr'.mono (Tups.of (g1.trans g2)), by omega, fun H3 g3 => ⟨_, _, rfl, rfl, ?_⟩⟩
      exact q H3 ((g1.trans g2).trans g3)
def spBrk : Sp := fun vs H Q _ => ∃ w v, vs = [v] ∧ WyIn H w v ∧ w.size ≤ 9 ∧ ∀ H', Same H H' → Q (.int w.brk) H'
abbrev s_brackets_in : Stmt := top 11
theorem sc_brackets_in : FnScope ["way"] ["way"] (defScope s_brackets_in) := ⟨rfl, rfl, rfl, by decide +kernel, rfl, by decide +kernel, by decide +kernel⟩
theorem ok_brackets_in (F : Fun K "brackets_in" "brackets_in" s_brackets_in f fd) (C_need_way : Cal P w K mg base "need_way" 3 ["thing"] spNeedWay) (C_count_brackets : Cal P w K mg base "count_brackets" 23 ["way"] (spCount 20)) : FnOk P w K mg base CX0 24 f fd ["way"] spBrk := by
  refine F.ok sc_brackets_in (fun vs H Q E h => ?_) (fun cdv A outer s H vs Q E hr h => ?_)
  · obtain ⟨x, v, rfl, _⟩ := h
    rfl
  obtain ⟨wy, v, rfl, hw, h9, q⟩ := h
  refine ⟨_, (@pss_cons _ _ _ _ _ (@ps_expr _ _ _ _ (@pe_cal _ _ _ _ _ _ _ _ _ _ _ C_need_way hr (by omega) rfl (@pa_cons _ _ _ _ _ (@pv _ 0 _ _ (by rfl) (by first | exact Or.inl rfl | exact Or.inr ( Or.inl rfl ) | exact Or.inr ( Or.inr rfl )) (by decide) (by decide)) pa_nil (by rfl)) (by decide) (by rfl) (by rfl)) (by rfl)) (@pss_one _ _ _ (@ps_ret _ _ _ _ (@pe_cal _ _ _ _ _ _ _ _ _ _ _ C_count_brackets hr (by omega) rfl (@pa_cons _ _ _ _ _ (@pv _ 0 _ _ (by rfl) (by first | exact Or.inl rfl | exact Or.inr ( Or.inl rfl ) | exact Or.inr ( Or.inr rfl )) (by decide) (by decide)) pa_nil (by rfl)) (by decide) (by rfl) (by rfl))))), ?_⟩
  refine ⟨_, rfl, wy, v, rfl, hw, h9, fun H1 g1 => ?_⟩
  have dl := wy.deep_le
  exact ⟨_, rfl, wy, v, rfl, hw.mono (Tups.of g1), by omega, fun H2 g2 => q H2 (g1.trans g2)⟩
end
end Put
set_option Elab.async false
set_option linter.all false
set_option maxRecDepth 100000
set_option maxHeartbeats 2000000
namespace Put
open PySem L2
def mkS (l : List Nat) : Str := ⟨l.toArray⟩
theorem mkS_app (a b : List Nat) : mkS a ++ mkS b = mkS (a ++ b) := by
  show Str.mk (a.toArray ++ b.toArray) = Str.mk (a ++ b).toArray
  simp
theorem mkS_len (l : List Nat) : (mkS l).length = l.length := by simp [mkS, Str.length]
theorem mkS_inj {a b : List Nat} (h : mkS a = mkS b) : a = b := by
  unfold mkS at h
  have := congrArg Str.cps h
  simpa using this
theorem mkS_size (l : List Nat) : (mkS l).cps.size = l.length := by simp [mkS]
theorem mkS_at (l : List Nat) (i : Nat) : (mkS l).cps[i]? = l[i]? := by simp [mkS]
theorem mkS_list (l : List Nat) : (mkS l).cps.toList = l := by simp [mkS]
def Sg.code : Sg → Nat
  | .plus => 43
  | .minus => 45
  | .times => 42
theorem sg_str_code (g : Sg) : g.str = mkS [g.code] := by cases g <;> rfl
theorem filt_range (l : List Nat) (a : Nat) : ∀ n, a + n ≤ l.length → (((List.range n).map fun (k : Nat) => a + k).filterMap fun i => l[i]?) = (l.drop a).take n := by
  intro n
  induction n with
  | zero => intro _; simp
  | succ n ih =>
    intro h
    have hl : a + n < l.length := by omega
    rw [List.range_succ, List.map_append, List.filterMap_append, ih (by omega)]
    have e : (l.drop a)[n]? = some l[a + n] := by rw [List.getElem?_drop]; exact List.getElem?_eq_getElem hl
    rw [List.take_succ, e]
    simp [hl]
theorem slice_ab (l : List Nat) (a b : Nat) (hab : a ≤ b) (hb : b ≤ l.length) (ix : List Nat) (hix : ix = (List.range (b - a)).map fun (k : Nat) => a + k) : (if ix.length = (mkS l).length then mkS l else ⟨(ix.filterMap ((mkS l).cps[·]?)).toArray⟩ : Str) = mkS ((l.drop a).take (b - a)) := by
  subst hix
  have e2 : (((List.range (b - a)).map fun (k : Nat) => a + k).filterMap ((mkS l).cps[·]?)) = (l.drop a).take (b - a) := by
    have : (fun i : Nat => (mkS l).cps[i]?) = fun i : Nat => l[i]? := by funext i; exact mkS_at l i
    rw [this]
    exact filt_range l a (b - a) (by omega)
  rw [e2]
  split
  · rename_i h
    rw [List.length_map, List.length_range, mkS_len] at h
    have ha : a = 0 := by omega
    have hb : b = l.length := by omega
    subst ha hb
    simp
  · rfl
theorem rng_ab (a b : Nat) (hab : a ≤ b) : PySem.sliceRange (a : Int) (b : Int) 1 = (List.range (b - a)).map fun (k : Nat) => a + k := by
  unfold PySem.sliceRange
  simp only [show (1 : Int) > 0 by decide, if_true]
  by_cases h : a < b
  · rw [if_pos (by omega)]
    have e : (((b : Int) - a + 1 - 1) / 1).toNat = b - a := by rw [Int.ediv_one]; omega
    rw [e]
    refine List.map_congr_left fun k _ => ?_
    omega
  · rw [if_neg (by omega)]
    have : b - a = 0 := by omega
    rw [this]; rfl
theorem cutS_take (l : List Nat) (k : Nat) (h : k ≤ l.length) : cutS (mkS l) none (some (k : Int)) = mkS (l.take k) := by
  have e : Builtin.Str.strSliceIndices none (some (k : Int)) 1 (mkS l).length = PySem.sliceRange ((0 : Nat) : Int) (k : Int) 1 := by
    unfold Builtin.Str.strSliceIndices
    rw [mkS_len]
    simp only [show (1 : Int) > 0 by decide, if_true]
    congr 1
    omega
  unfold cutS
  rw [e, slice_ab l 0 k (Nat.zero_le _) h _ (rng_ab 0 k (Nat.zero_le _))]
  simp
theorem cutS_drop (l : List Nat) (k : Nat) (h : k ≤ l.length) : cutS (mkS l) (some (k : Int)) none = mkS (l.drop k) := by
  have e : Builtin.Str.strSliceIndices (some (k : Int)) none 1 (mkS l).length = PySem.sliceRange (k : Int) (l.length : Int) 1 := by
    unfold Builtin.Str.strSliceIndices
    rw [mkS_len]
    simp only [show (1 : Int) > 0 by decide, if_true]
    congr 1
    omega
  unfold cutS
  rw [e, slice_ab l k l.length h (Nat.le_refl _) _ (rng_ab k l.length h)]
  rw [List.take_of_length_le (by rw [List.length_drop]; exact Nat.le_refl _)]
theorem cutS_mid (l : List Nat) (x y : Nat) : cutS (mkS (x :: l ++ [y])) (some 1) (some (-1)) = mkS l := by
  have hl : (x :: l ++ [y]).length = l.length + 2 := by simp
  have e : Builtin.Str.strSliceIndices (some 1) (some (-1)) 1 (mkS (x :: l ++ [y])).length = PySem.sliceRange ((1 : Nat) : Int) ((l.length + 1 : Nat) : Int) 1 := by
    unfold Builtin.Str.strSliceIndices
    rw [mkS_len, hl]
    simp only [show (1 : Int) > 0 by decide, if_true]
    congr 1 <;> (try omega)
    all_goals (split <;> omega)
  unfold cutS
  rw [e, slice_ab _ 1 (l.length + 1) (by omega) (by omega) _ (rng_ab 1 (l.length + 1) (by omega))]
  congr 1
  have : l.length + 1 - 1 = l.length := by omega
  rw [this]
  simp
theorem starts1 (l : List Nat) (c : Nat) : Txt.startswith (mkS l) (mkS [c]) = decide (l.head? = some c) := by
  unfold Txt.startswith Builtin.Str.subAt
  rw [mkS_len, mkS_len]
  cases l with
  | nil => simp [mkS]
  | cons a r => simp [mkS]; rw [Bool.eq_iff_iff]; simp
theorem ends1 (l : List Nat) (c : Nat) : Txt.endswith (mkS l) (mkS [c]) = decide (l.getLast? = some c) := by
  unfold Txt.endswith Builtin.Str.subAt
  rw [mkS_len, mkS_len]
  rcases List.eq_nil_or_concat l with h | ⟨r, a, h⟩
  · subst h; simp [mkS]
  · subst h
    simp [mkS]; rw [Bool.eq_iff_iff]; simp
theorem remp1 (l : List Nat) (c : Nat) : Txt.removeprefix (mkS l) (mkS [c]) = mkS (if l.head? = some c then l.tail else l) := by
  unfold Txt.removeprefix Builtin.Str.subAt
  rw [mkS_len]
  cases l with
  | nil => simp [mkS, Txt.affix]
  | cons a r =>
    by_cases h : a = c
    · subst h
      simp [mkS, Txt.affix, Str.length, Builtin.Str.strSub]
    · simp [mkS, Txt.affix, h, List.head?]
theorem count_run (x : Str) (c hi limit : Nat) (hx : hi = x.length) : ∀ (n a : Nat) (st : Array Nat × Nat), st.2 ≤ a → a + n = hi + 1 → st.1.size + n ≤ limit →
    (forIn (List.range' a n) st (StrLaws.occBody x ⟨#[c]⟩ hi limit)).run.fst.size = st.1.size + (x.cps.toList.drop a).count c
  | 0, a, st, h1, h2, h3 => by
    have : x.cps.toList.drop a = [] := List.drop_eq_nil_of_le (by simp [Str.length] at hx ⊢; omega)
    rw [this]; rfl
  | n + 1, a, st, h1, h2, h3 => by
    rw [List.range'_succ, List.forIn_cons]
    unfold StrLaws.occBody
    have key := StrLaws.subAt_one x c a
    rw [← hx] at key
    by_cases hc : x.cps.toList[a]? = some c
    · have k2 := key.mpr hc
      rw [if_pos ⟨⟨⟨by omega, h1⟩, k2.1⟩, k2.2⟩]
      have ih := count_run x c hi limit hx n (a + 1) (st.1.push a, a + 1) (Nat.le_refl _) (by omega) (by simp; omega)
      refine Eq.trans ih ?_
      obtain ⟨hlt, e⟩ := List.getElem?_eq_some_iff.mp hc
      rw [List.drop_eq_getElem_cons hlt, e]
      simp; omega
    · rw [if_neg (fun z => hc (key.mp ⟨z.1.2, z.2⟩))]
      have ih := count_run x c hi limit hx n (a + 1) st (by omega) (by omega) (by omega)
      refine Eq.trans ih ?_
      by_cases hlt : a < x.cps.toList.length
      · rw [List.drop_eq_getElem_cons hlt, List.count_cons_of_ne]
        intro e
        exact hc (by rw [List.getElem?_eq_getElem hlt, e])
      · rw [List.drop_eq_nil_of_le (by omega), List.drop_eq_nil_of_le (by omega)]
theorem count1 (l : List Nat) (c : Nat) : Txt.count (mkS l) (mkS [c]) = (l.count c : Nat) := by
  unfold Txt.count
  rw [StrLaws.occ_eq, Array.length_toList]
  have := count_run (mkS l) c (mkS l).length ((mkS l).length + 1) rfl ((mkS l).length + 1) 0 (#[], 0) (Nat.le_refl _) (by omega) (by simp)
  rw [mkS_list] at this
  refine congrArg Int.ofNat ?_
  have e : mkS [c] = ⟨#[c]⟩ := rfl
  rw [e]
  simpa using this
def dg (n : Nat) : List Nat := if n < 10 then [48 + n] else dg (n / 10) ++ [48 + n % 10]
termination_by n
decreasing_by omega
theorem dg_small {n : Nat} (h : n < 10) : dg n = [48 + n] := by rw [dg, if_pos h]
theorem dg_big {n : Nat} (h : ¬ n < 10) : dg n = dg (n / 10) ++ [48 + n % 10] := by rw [dg, if_neg h]
theorem dg_len : ∀ (k n : Nat), n < 10 ^ (k + 1) → (dg n).length ≤ k + 1
  | 0, n, h => by rw [dg_small (by simpa using h)]; simp
  | k + 1, n, h => by
    by_cases c : n < 10
    · rw [dg_small c]; simp
    · rw [dg_big c, List.length_append]
      have := dg_len k (n / 10) (by
        have e : 10 ^ (k + 1 + 1) = 10 ^ (k + 1) * 10 := by rw [Nat.pow_succ]
        rw [e] at h
        exact Nat.div_lt_of_lt_mul (by rw [Nat.mul_comm]; exact h))
      simp only [List.length_singleton]; omega
theorem dg_ne (n : Nat) : dg n ≠ [] := by
  by_cases c : n < 10
  · rw [dg_small c]; simp
  · rw [dg_big c]; simp
theorem dg_mem (n : Nat) : ∀ c ∈ dg n, 48 ≤ c ∧ c ≤ 57 := by
  induction n using Nat.strongRecOn with
  | ind n ih =>
    intro c hc
    by_cases h : n < 10
    · rw [dg_small h] at hc
      simp at hc; omega
    · rw [dg_big h] at hc
      rcases List.mem_append.mp hc with hc | hc
      · exact ih (n / 10) (by omega) c hc
      · simp at hc; omega
def rd (l : List Nat) : Nat := l.foldl (fun a c => a * 10 + (c - 48)) 0
theorem dg_val (n : Nat) : rd (dg n) = n := by
  induction n using Nat.strongRecOn with
  | ind n ih =>
    by_cases h : n < 10
    · rw [dg_small h]; simp [rd]
    · rw [dg_big h]
      have := ih (n / 10) (by omega)
      unfold rd at this ⊢
      rw [List.foldl_append, this]
      simp only [List.foldl_cons, List.foldl_nil]
      omega
theorem dg_lead (n : Nat) (h : n ≠ 0) : (dg n).head? ≠ some 48 := by
  induction n using Nat.strongRecOn with
  | ind n ih =>
    by_cases c : n < 10
    · rw [dg_small c]; simp; omega
    · rw [dg_big c]
      have hne := dg_ne (n / 10)
      have := ih (n / 10) (by omega) (by omega)
      cases hd : dg (n / 10) with
      | nil => exact absurd hd hne
      | cons a r => rw [hd] at this; simpa using this
def wn (i : Int) : List Nat := (if i < 0 then [126] else []) ++ dg i.natAbs
theorem wn_mem (i : Int) : ∀ c ∈ wn i, c = 126 ∨ (48 ≤ c ∧ c ≤ 57) := by
  intro c hc
  rcases List.mem_append.mp hc with h | h
  · split at h
    · simp at h; exact .inl h
    · cases h
  · exact .inr (dg_mem _ c h)
theorem wn_len (i : Int) (h : -1000000000000 < i ∧ i < 1000000000000) : (wn i).length ≤ 13 := by
  have := dg_len 11 i.natAbs (by show _ < 1000000000000; omega)
  unfold wn
  rw [List.length_append]
  split <;> simp <;> omega
def br (b : Bool) (l : List Nat) : List Nat := if b then 40 :: l ++ [41] else l
def Wy.tx : Wy → List Nat
  | .num i => wn i
  | .node g l r => br (leftB g l.os) l.tx ++ g.code :: br (rightB g r.os) r.tx
theorem br_len (b : Bool) (l : List Nat) : (br b l).length ≤ l.length + 2 := by cases b <;> simp [br]
theorem tx_len : ∀ w : Wy, Small w.nums → w.tx.length + 5 ≤ 18 * w.size
  | .num i, h => by have := wn_len i (h i (by simp [Wy.nums])); show (wn i).length + 5 ≤ 18 * 1; omega
  | .node g l r, h => by
    have a := tx_len l fun i hi => h i (List.mem_append_left _ hi)
    have b := tx_len r fun i hi => h i (List.mem_append_right _ hi)
    have c := br_len (leftB g l.os) l.tx
    have d := br_len (rightB g r.os) r.tx
    show (br (leftB g l.os) l.tx ++ g.code :: br (rightB g r.os) r.tx).length + 5 ≤ 18 * (l.size + r.size)
    rw [List.length_append, List.length_cons]
    omega
def okc (c : Nat) : Prop := c = 126 ∨ (48 ≤ c ∧ c ≤ 57) ∨ c = 40 ∨ c = 41 ∨ c = 42 ∨ c = 43 ∨ c = 45
theorem br_mem {b : Bool} {l : List Nat} {c : Nat} (h : c ∈ br b l) : c ∈ l ∨ c = 40 ∨ c = 41 := by
  cases b with
  | false => exact .inl h
  | true =>
    rcases List.mem_append.mp h with h | h
    · rcases List.mem_cons.mp h with h | h
      · exact .inr (.inl h)
      · exact .inl h
    · exact .inr (.inr (by simpa using h))
theorem tx_mem : ∀ (w : Wy), ∀ c ∈ w.tx, okc c
  | .num i, c, h => (wn_mem i c h).elim .inl fun z => .inr (.inl z)
  | .node g l r, c, h => by
    rcases List.mem_append.mp h with h | h
    · rcases br_mem h with h | h | h
      · exact tx_mem l c h
      · exact .inr (.inr (.inl h))
      · exact .inr (.inr (.inr (.inl h)))
    · rcases List.mem_cons.mp h with h | h
      · subst h; cases g <;> simp [okc, Sg.code]
      · rcases br_mem h with h | h | h
        · exact tx_mem r c h
        · exact .inr (.inr (.inl h))
        · exact .inr (.inr (.inr (.inl h)))
theorem okc_ascii {l : List Nat} (h : ∀ c ∈ l, okc c) : (mkS l).cps.all (· < 128) = true := by
  unfold mkS
  rw [Array.all_eq_true']
  intro c hc
  have := h c (by simpa using hc)
  rcases this with h | h | h | h | h | h | h <;> simp <;> omega
abbrev LS := Int × Option Nat × Option Nat
def lj1 (i c : Nat) (s : LS) : LS :=
  if c = 40 then (s.1 + 1, s.2) else if c = 41 then (s.1 - 1, s.2) else if s.1 = 0 ∧ (c = 43 ∨ c = 45) then (s.1, some i, s.2.2) else if s.1 = 0 ∧ c = 42 then (s.1, s.2.1, some i) else s
def lj : Nat → List Nat → LS → LS
  | _, [], s => s
  | i, c :: r, s => lj (i + 1) r (lj1 i c s)
theorem lj_app : ∀ (a b : List Nat) (i : Nat) (s : LS), lj i (a ++ b) s = lj (i + a.length) b (lj i a s)
  | [], b, i, s => rfl
  | c :: r, b, i, s => by
    show lj (i + 1) (r ++ b) (lj1 i c s) = _
    rw [lj_app r b (i + 1)]
    show lj (i + 1 + r.length) b _ = lj (i + (r.length + 1)) b _
    rw [show i + 1 + r.length = i + (r.length + 1) by omega]; rfl
def joint (l : List Nat) : Option Nat := match (lj 0 l (0, none, none)).2.1 with | none => (lj 0 l (0, none, none)).2.2 | some k => some k
theorem lj_plain : ∀ (l : List Nat) (i : Nat) (s : LS), (∀ c ∈ l, c = 126 ∨ (48 ≤ c ∧ c ≤ 57)) → lj i l s = s
  | [], _, _, _ => rfl
  | c :: r, i, s, h => by
    have hc := h c (by simp)
    have e : lj1 i c s = s := by
      unfold lj1
      rw [if_neg (by omega), if_neg (by omega), if_neg (by omega), if_neg (by omega)]
    show lj (i + 1) r (lj1 i c s) = s
    rw [e]
    exact lj_plain r (i + 1) s fun d hd => h d (List.mem_cons_of_mem _ hd)
theorem lj_opn (i : Nat) (l : List Nat) (d : Int) (x : Option Nat × Option Nat) (h : lj (i + 1) l (d + 1, x) = (d + 1, x)) : lj i (40 :: l ++ [41]) (d, x) = (d, x) := by
  show lj (i + 1) (l ++ [41]) (lj1 i 40 (d, x)) = _
  have e : lj1 i 40 (d, x) = (d + 1, x) := rfl
  rw [e, lj_app, h]
  show lj1 (i + 1 + l.length) 41 (d + 1, x) = _
  unfold lj1
  rw [if_neg (by decide), if_pos rfl]
  show (d + 1 - 1, x) = _
  rw [Int.add_sub_cancel]
theorem tx_deep : ∀ (w : Wy) (i : Nat) (d : Int) (x : Option Nat × Option Nat), 0 < d → lj i w.tx (d, x) = (d, x)
  | .num n, i, d, x, _ => lj_plain _ _ _ (wn_mem n)
  | .node g l r, i, d, x, hd => by
    have hbr : ∀ (b : Bool) (w : Wy) (i : Nat), (∀ (i : Nat) (d : Int), 0 < d → lj i w.tx (d, x) = (d, x)) → lj i (br b w.tx) (d, x) = (d, x) := fun b w i ih => by
      cases b with
      | false => exact ih i d hd
      | true => exact lj_opn i w.tx d x (ih (i + 1) (d + 1) (by omega))
    show lj i (br (leftB g l.os) l.tx ++ g.code :: br (rightB g r.os) r.tx) (d, x) = _
    rw [lj_app, hbr _ l i (fun i d h => tx_deep l i d x h)]
    have e : lj1 (i + (br (leftB g l.os) l.tx).length) g.code (d, x) = (d, x) := by
      unfold lj1
      rw [if_neg (by cases g <;> decide), if_neg (by cases g <;> decide), if_neg (fun z => by have := z.1; simp at this; omega), if_neg (fun z => by have := z.1; simp at this; omega)]
    show lj _ _ (lj1 _ g.code (d, x)) = _
    rw [e]
    exact hbr _ r _ (fun i d h => tx_deep r i d x h)
theorem br_top (w : Wy) (i : Nat) (x : Option Nat × Option Nat) : lj i (40 :: w.tx ++ [41]) (0, x) = (0, x) := lj_opn i w.tx 0 x (tx_deep w (i + 1) (0 + 1) x (by decide))
def Wy.ll : Wy → Nat
  | .num _ => 0
  | .node g l _ => (br (leftB g l.os) l.tx).length
theorem tx_top : ∀ (w : Wy) (i : Nat) (s p : Option Nat), ∃ s' p', lj i w.tx (0, s, p) = (0, s', p') ∧ (w.os = none → s' = s ∧ p' = p) ∧ (w.os = some .times → s' = s ∧ p' = some (i + w.ll)) ∧ ((w.os = some .plus ∨ w.os = some .minus) → s' = some (i + w.ll))
  | .num n, i, s, p => ⟨s, p, lj_plain _ _ _ (wn_mem n), fun _ => ⟨rfl, rfl⟩, fun z => by simp [Wy.os] at z, fun z => by simp [Wy.os] at z⟩
  | .node g l r, i, s, p => by
    have e : lj i (Wy.node g l r).tx (0, s, p) = lj (i + (br (leftB g l.os) l.tx).length + 1) (br (rightB g r.os) r.tx) (lj1 (i + (br (leftB g l.os) l.tx).length) g.code (lj i (br (leftB g l.os) l.tx) (0, s, p))) := by
      show lj i (br (leftB g l.os) l.tx ++ g.code :: br (rightB g r.os) r.tx) (0, s, p) = _
      rw [lj_app]; rfl
    rw [e]
    have hl : ∃ s1 p1, lj i (br (leftB g l.os) l.tx) (0, s, p) = (0, s1, p1) ∧ (g = .times → s1 = s) := by
      obtain ⟨s1, p1, h1, h2, h3, h4⟩ := tx_top l i s p
      cases hb : leftB g l.os with
      | true => exact ⟨s, p, br_top l i (s, p), fun _ => rfl⟩
      | false =>
        refine ⟨s1, p1, h1, fun hg => ?_⟩
        subst hg
        cases ho : l.os with
        | none => exact (h2 ho).1
        | some x =>
          rw [ho] at hb
          cases x with
          | times => exact (h3 ho).1
          | plus => simp [leftB] at hb
          | minus => simp [leftB] at hb
    obtain ⟨s1, p1, h1, h2⟩ := hl
    rw [h1]
    have hr : ∀ k s p, ∃ p', lj k (br (rightB g r.os) r.tx) (0, s, p) = (0, s, p') ∧ (g = .times → p' = p) := fun k s p => by
      cases hb : rightB g r.os with
      | true => exact ⟨p, br_top r k (s, p), fun _ => rfl⟩
      | false =>
        obtain ⟨s2, p2, q1, q2, q3, q4⟩ := tx_top r k s p
        cases ho : r.os with
        | none => obtain ⟨z1, z2⟩ := q2 ho; subst z1 z2; exact ⟨_, q1, fun _ => rfl⟩
        | some x =>
          rw [ho] at hb
          cases x with
          | times =>
            obtain ⟨z1, z2⟩ := q3 ho
            subst z1
            exact ⟨_, q1, fun hg => by subst hg; simp [rightB] at hb⟩
          | plus => cases g <;> simp [rightB] at hb
          | minus => cases g <;> simp [rightB] at hb
    cases g with
    | times =>
      have e1 : lj1 (i + (br (leftB .times l.os) l.tx).length) Sg.times.code (0, s1, p1) = (0, s1, some (i + (br (leftB .times l.os) l.tx).length)) := rfl
      rw [e1]
      obtain ⟨p', k1, k2⟩ := hr (i + (br (leftB .times l.os) l.tx).length + 1) s1 (some (i + (br (leftB .times l.os) l.tx).length))
      have k2 := k2 rfl
      have h2 := h2 rfl
      subst k2 h2
      exact ⟨_, _, k1, fun z => by simp [Wy.os] at z, fun _ => ⟨rfl, rfl⟩, fun z => by simp [Wy.os] at z⟩
    | plus =>
      have e1 : lj1 (i + (br (leftB .plus l.os) l.tx).length) Sg.plus.code (0, s1, p1) = (0, some (i + (br (leftB .plus l.os) l.tx).length), p1) := rfl
      rw [e1]
      obtain ⟨p', k1, k2⟩ := hr (i + (br (leftB .plus l.os) l.tx).length + 1) (some (i + (br (leftB .plus l.os) l.tx).length)) p1
      exact ⟨_, _, k1, fun z => by simp [Wy.os] at z, fun z => by simp [Wy.os] at z, fun _ => rfl⟩
    | minus =>
      have e1 : lj1 (i + (br (leftB .minus l.os) l.tx).length) Sg.minus.code (0, s1, p1) = (0, some (i + (br (leftB .minus l.os) l.tx).length), p1) := rfl
      rw [e1]
      obtain ⟨p', k1, k2⟩ := hr (i + (br (leftB .minus l.os) l.tx).length + 1) (some (i + (br (leftB .minus l.os) l.tx).length)) p1
      exact ⟨_, _, k1, fun z => by simp [Wy.os] at z, fun z => by simp [Wy.os] at z, fun _ => rfl⟩
theorem joint_node (g : Sg) (l r : Wy) : joint (Wy.node g l r).tx = some (br (leftB g l.os) l.tx).length := by
  obtain ⟨s', p', h1, h2, h3, h4⟩ := tx_top (.node g l r) 0 none none
  unfold joint
  rw [h1]
  cases g with
  | times => obtain ⟨a, b⟩ := h3 rfl; subst a b; simp [Wy.ll]
  | plus => have := h4 (.inl rfl); subst this; simp [Wy.ll]
  | minus => have := h4 (.inr rfl); subst this; simp [Wy.ll]
theorem joint_br (w : Wy) : joint (40 :: w.tx ++ [41]) = none := by
  unfold joint
  rw [br_top]
theorem tx_head_num (i : Int) : (wn i).head? ≠ some 40 := by
  intro h
  have := wn_mem i 40 (List.mem_of_mem_head? h)
  omega
end Put
set_option Elab.async false
set_option linter.all false
set_option maxRecDepth 100000
set_option maxHeartbeats 2000000
namespace Put
open PySem L2
structure Cf (K : PySem.W.Frag) (mg : Str → Option Value) (t1 t2 : Tok) : Prop where
  gFIGURES : mg "FIGURES" = some (.str "0123456789" t1)
  gBELOW : mg "BELOW" = some (.str "~" t2)
theorem figs_eq : ("0123456789" : Str) = mkS [48, 49, 50, 51, 52, 53, 54, 55, 56, 57] := by decide +kernel
theorem below_eq : ("~" : Str) = mkS [126] := by decide +kernel
theorem emp_eq : ("" : Str) = mkS [] := by decide +kernel
theorem str_dec (a l : List Nat) : decide (V.str (mkS a) = V.str (mkS l)) = decide (a = l) := by
  by_cases h : a = l
  · subst h; simp
  · rw [decide_eq_false h, decide_eq_false]
    intro z
    injection z with z
    exact h (mkS_inj z)
theorem fig_at (d : Nat) (h : d < 10) : atI ("0123456789" : Str).cps.toList (d : Int) = some (48 + d) := by
  rw [figs_eq, mkS_list]
  refine atI_nat ?_
  have : d = 0 ∨ d = 1 ∨ d = 2 ∨ d = 3 ∨ d = 4 ∨ d = 5 ∨ d = 6 ∨ d = 7 ∨ d = 8 ∨ d = 9 := by omega
  rcases this with rfl | rfl | rfl | rfl | rfl | rfl | rfl | rfl | rfl | rfl <;> rfl
theorem fig_in (c : Nat) : (!(Builtin.Str.occurrences ("0123456789" : Str) (mkS [c]) 0 ("0123456789" : Str).length 1).isEmpty) = decide (48 ≤ c ∧ c ≤ 57) := by
  have := StrLaws.found_one ("0123456789" : Str) c
  have e : mkS [c] = ⟨#[c]⟩ := rfl
  rw [e, this, figs_eq, mkS_list]
  rw [Bool.eq_iff_iff, decide_eq_true_eq, decide_eq_true_eq]
  simp only [List.mem_cons, List.not_mem_nil, or_false]
  omega
theorem fig_int (c : Nat) (h : 48 ≤ c ∧ c ≤ 57) : PySem.intText? (mkS [c]) = some ((c - 48 : Nat) : Int) := by
  have : c = 48 ∨ c = 49 ∨ c = 50 ∨ c = 51 ∨ c = 52 ∨ c = 53 ∨ c = 54 ∨ c = 55 ∨ c = 56 ∨ c = 57 := by omega
  rcases this with rfl | rfl | rfl | rfl | rfl | rfl | rfl | rfl | rfl | rfl <;> decide +kernel
theorem join_mk : ∀ ls : List (List Nat), Txt.join (mkS []) (ls.map mkS) = mkS ls.flatten := by
  intro ls
  show Builtin.Str.glued (mkS []) (ls.map mkS) = _
  rw [StrLaws.glued_eq_join]
  induction ls with
  | nil => rfl
  | cons a r ih =>
    cases r with
    | nil => show mkS a = mkS ([a].flatten); simp
    | cons b r =>
      show mkS a ++ mkS [] ++ Str.join (mkS []) ((b :: r).map mkS) = _
      rw [ih, mkS_app, mkS_app]
      simp
theorem join_ok (ls : List (List Nat)) (h : ls.flatten.length ≤ 1000) : JoinOk (mkS []) (ls.map mkS) = true := by
  unfold JoinOk
  have e := StrLaws.joinTotal (mkS []) (ls.map mkS)
  rw [e]
  have e2 : ((ls.map mkS).map (·.length)).sum = ls.flatten.length := by
    rw [List.map_map, List.length_flatten]
    exact congrArg List.sum (List.map_congr_left fun x _ => mkS_len x)
  rw [e2]
  have e3 : (mkS []).length = 0 := rfl
  rw [e3, Nat.mul_zero, Nat.add_zero]
  unfold Builtin.Str.tooLong
  rw [decide_eq_false (by have := le_line h; omega)]
  rfl
theorem use2 {A G : Prop} (h : A) (k : A → G) : G := k h
section
variable {P : Program} {w : World} {K : PySem.W.Frag} {mg : Str → Option Value} {base : Heap} {f : Addr} {fd : FuncData}
def InR (i : Int) : Prop := -1000000000000 < i ∧ i < 1000000000000
def ch (c : Nat) : V := .str (mkS [c])
def spWN : Sp := fun vs H Q _ => ∃ i, vs = [.int i] ∧ InR i ∧ ∀ H', Same H H' → Q (.str (mkS (wn i))) H'
def FigOk (n left : Nat) (fs : List Nat) : Prop := (fs = [] ∧ left = n) ∨ (fs ≠ [] ∧ left = 0 ∧ fs.reverse = dg n) ∨ (fs ≠ [] ∧ 0 < left ∧ dg left ++ fs.reverse = dg n)
theorem FigOk.len {n left : Nat} {fs : List Nat} (h : FigOk n left fs) : fs.length ≤ (dg n).length := by
  rcases h with ⟨h, _⟩ | ⟨_, _, h⟩ | ⟨_, _, h⟩
  · rw [h]; simp
  · rw [← h]; simp
  · rw [← h]; simp
theorem FigOk.step {n left : Nat} {fs : List Nat} (h : FigOk n left fs) (hc : 0 < left ∨ fs = []) : FigOk n (left / 10) (fs ++ [48 + left % 10]) := by
  have hd : dg left ++ fs.reverse = dg n := by
    rcases h with ⟨h, e⟩ | ⟨h1, h2, _⟩ | ⟨_, _, h⟩
    · rw [h, e]; simp
    · rcases hc with hc | hc
      · omega
      · exact absurd hc h1
    · exact h
  by_cases c : left < 10
  · refine .inr (.inl ⟨by simp, by omega, ?_⟩)
    rw [← hd, dg_small c, List.reverse_append]
    have : left % 10 = left := by omega
    rw [this]; rfl
  · refine .inr (.inr ⟨by simp, by omega, ?_⟩)
    rw [← hd, dg_big c, List.reverse_append]
    simp
theorem fig_end {i : Int} {fs z : List Nat} (h : fs.reverse = dg i.natAbs) (hl : fs.length ≤ 12) (hz : wn i = z ++ dg i.natAbs) (hz1 : z.length ≤ 1) :
    fs.map ch ++ [V.str (mkS z)] = (fs.map (fun c => mkS [c]) ++ [mkS z]).map V.str ∧ JoinOk (mkS []) (fs.map (fun c => mkS [c]) ++ [mkS z]).reverse = true ∧ Txt.join (mkS []) (fs.map (fun c => mkS [c]) ++ [mkS z]).reverse = mkS (wn i) := by
  have e : (fs.map (fun c => mkS [c]) ++ [mkS z]).reverse = (z :: fs.reverse.map fun c => [c]).map mkS := by
    rw [List.reverse_append, List.map_cons, List.map_map, ← List.map_reverse]
    rfl
  have fl : (z :: fs.reverse.map fun c => [c]).flatten = wn i := by
    rw [hz, ← h]
    show z ++ (fs.reverse.map fun c => [c]).flatten = _
    have : ∀ l : List Nat, (l.map fun c => [c]).flatten = l := fun l => by
      induction l with
      | nil => rfl
      | cons a r ih => show [a] ++ (r.map fun c => [c]).flatten = _; rw [ih]; rfl
    rw [this]
  refine ⟨?_, ?_, ?_⟩
  · rw [List.map_append, List.map_map]; rfl
  · rw [e]
    refine join_ok _ ?_
    rw [fl, hz, ← h, List.length_append, List.length_reverse]; omega
  · rw [e, join_mk, fl]
abbrev s_write_number : Stmt := top 23
theorem sc_write_number : FnScope ["number", "left", "figures", "last"] ["number"] (defScope s_write_number) := ⟨rfl, rfl, rfl, by decide +kernel, rfl, by decide +kernel, by decide +kernel⟩
theorem ok_write_number {t1 t2 : Tok} (F : Fun K "write_number" "write_number" s_write_number f fd) (B : Bu K mg) (B2 : Cf K mg t1 t2) : FnOk P w K mg base CX0 1 f fd ["number"] spWN := by
  refine F.ok sc_write_number (fun vs H Q E h => ?_) (fun cdv A outer s H vs Q E hr h => ?_)
  · obtain ⟨x, rfl, _⟩ := h
    rfl
  obtain ⟨i, rfl, hi, q⟩ := h
  refine ⟨_, (@pss_cons _ _ _ _ _ (@ps_set _ _ (1) _ _ _ _ (sc_write_number).nd rfl (Or.inl rfl) (@pe_callB _ _ _ _ _ _ _ _ _ call_abs rfl B.iabs PyProof.Rows.boot_abs (@pa_cons _ _ _ _ _ (@pv _ 0 _ _ (by rfl) (by first | exact Or.inl rfl | exact Or.inr ( Or.inl rfl ) | exact Or.inr ( Or.inr rfl )) (by decide) (by decide)) pa_nil (by rfl)) (by decide) (by decide) (by rfl) (by rfl)) (by rfl) (by first | exact .inl rfl | exact .inr rfl | assumption)) (@pss_cons _ _ _ _ _ (@ps_set _ _ (2) _ _ _ _ (sc_write_number).nd rfl (Or.inl rfl) (@pe_lst _ _ _ _ pa_nil) (by rfl) (by first | exact .inl rfl | exact .inr rfl | assumption)) (@pss_cons _ _ _ _ _ (@ps_while _ _ _ _ _ _ PassesOwn.never (@PW.pt _ _ _ (@pw_or _ _ _ _ _ _ _ (@pt_cmpR _ _ _ _ _ _ _ _ op_gt (@pv _ 1 _ _ (by rfl) (by first | exact Or.inl rfl | exact Or.inr ( Or.inl rfl ) | exact Or.inr ( Or.inr rfl )) (by decide) (by decide)) pe_int (nomark _)) (@pw_or1 _ _ _ _ (@pt_not _ _ _ _ (@pt_truth _ _ _ (@pv _ 2 _ _ (by rfl) (by first | exact Or.inl rfl | exact Or.inr ( Or.inl rfl ) | exact Or.inr ( Or.inr rfl )) (by decide) (by decide)) (fun _ => rfl)))))) (@pss_cons _ _ _ _ _ (@ps_asg _ _ _ _ _ _ (@pe_callB _ _ _ _ _ _ _ _ _ call_divmod rfl B.idivmod PyProof.Rows.boot_divmod (@pa_cons _ _ _ _ _ (@pv _ 1 _ _ (by rfl) (by first | exact Or.inl rfl | exact Or.inr ( Or.inl rfl ) | exact Or.inr ( Or.inr rfl )) (by decide) (by decide)) (@pa_cons _ _ _ _ _ pe_int pa_nil (by rfl)) (by rfl)) (by decide) (by decide) (by rfl) (by rfl)) (@pg_tup _ _ _ _ _ _ rfl (@pgs_cons _ _ _ _ _ (@pg_name _ _ (1) _ (sc_write_number).nd rfl (Or.inl rfl) (by first | exact .inl rfl | exact .inr rfl | assumption)) (@pgs_cons _ _ _ _ _ (@pg_name _ _ (3) _ (sc_write_number).nd rfl (Or.inl rfl) (by first | exact .inl rfl | exact .inr rfl | assumption)) pgs_nil (by rfl)) (by rfl)) (by rfl) (by rfl)) (by rfl) (by rfl) (by rfl)) (@pss_one _ _ _ (@ps_expr _ _ _ _ (@pe_bm _ _ _ _ _ _ _ _ _ _ _ _ PySem.F.plainAttrs_list PySem.F.slot_list_append PySem.F.type_list_append mt_append (@pv _ 2 _ _ (by rfl) (by first | exact Or.inl rfl | exact Or.inr ( Or.inl rfl ) | exact Or.inr ( Or.inr rfl )) (by decide) (by decide)) (@pa_cons _ _ _ _ _ (@pe_ix _ _ _ _ _ _ _ ix_str (@pe_glob _ _ (.str "0123456789") _ _ rfl B2.gFIGURES ⟨_, rfl⟩ (by decide)) (@pv _ 3 _ _ (by rfl) (by first | exact Or.inl rfl | exact Or.inr ( Or.inl rfl ) | exact Or.inr ( Or.inr rfl )) (by decide) (by decide)) (fun _ _ => rfl)) pa_nil (by rfl)) (by rfl) (by rfl) (by rfl) (by rfl) (by rfl)) (by rfl))))) (@pss_cons _ _ _ _ _ (@ps_expr _ _ _ _ (@pe_bm _ _ _ _ _ _ _ _ _ _ _ _ PySem.F.plainAttrs_list PySem.F.slot_list_append PySem.F.type_list_append mt_append (@pv _ 2 _ _ (by rfl) (by first | exact Or.inl rfl | exact Or.inr ( Or.inl rfl ) | exact Or.inr ( Or.inr rfl )) (by decide) (by decide)) (@pa_cons _ _ _ _ _ (@pe_ifExp _ _ _ _ _ _ _ _ (@pt_cmpR _ _ _ _ _ _ _ _ op_lt (@pv _ 0 _ _ (by rfl) (by first | exact Or.inl rfl | exact Or.inr ( Or.inl rfl ) | exact Or.inr ( Or.inr rfl )) (by decide) (by decide)) pe_int (nomark _)) (@pe_glob _ _ (.str "~") _ _ rfl B2.gBELOW ⟨_, rfl⟩ (by decide)) pe_str) pa_nil (by rfl)) (by rfl) (by rfl) (by rfl) (by rfl) (by rfl)) (by rfl)) (@pss_one _ _ _ (@ps_ret _ _ _ _ (@pe_joinrev _ _ _ _ _ _ _ _ _ _ rfl rfl B.ireversed (@pv _ 2 _ _ (by rfl) (by first | exact Or.inl rfl | exact Or.inr ( Or.inl rfl ) | exact Or.inr ( Or.inr rfl )) (by decide) (by decide)) (by rfl) (by rfl) (by rfl)))))))), ?_⟩
  have hl : (dg i.natAbs).length ≤ 12 := dg_len 11 i.natAbs (by have := hi.1; have := hi.2; show _ < 1000000000000; omega)
  have ea : (if i < 0 then -i else i) = (i.natAbs : Int) := by split <;> omega
  refine ⟨_, rfl, i, rfl, ?_⟩
  rw [ea]
  refine ⟨Nat.zero_le _, fun pf nf => ?_⟩
  refine ⟨fun m σ H' => ∃ (left : Nat) (fs : List Nat) (last : Option V), σ = [some (.int i), some (.int left), some (.ref pf), last] ∧ H' pf = some (.lst (fs.map ch)) ∧ Same H H' ∧ FigOk i.natAbs left fs ∧ m = left + (if fs = [] then 1 else 0), ?_, ?_⟩
  · exact ⟨_, i.natAbs, [], _, rfl, upd_same, Same.new nf _, .inl ⟨rfl, rfl⟩, rfl⟩
  rintro m σ H' ⟨left, fs, last, rfl, ef, S, hF, rfl⟩
  have hle := hF.len
  refine use2 (A := (0 < left ∨ fs = []) → _) ?body fun body => use2 (A := (fs ≠ [] → left = 0 → _)) ?fin fun fin => ⟨_, rfl, _, _, rfl, rfl, _, rfl, ite2 (fun c => iteT (body (.inl (by have := of_decide_eq_true c; omega)))) (fun c => ⟨_, rfl, !fs.isEmpty, .inl ⟨_, SqL.of ef, by simp⟩, ite2 (fun d => body (.inr (by simpa using d))) (fun d => fin (by simpa using d) (by have : ¬ (0 : Int) < left := fun z => c (decide_eq_true z); omega))⟩)⟩
  case body =>
    intro hc
    refine ⟨fun σ' H' => ∃ m', m' < left + (if fs = [] then 1 else 0) ∧ _, fun σ' H' h => h, ?_⟩
    refine ⟨_, rfl, left, 10, rfl, ⟨by decide, by decide⟩, fun p hp => ⟨p, _, rfl, SqT.of upd_same, rfl, _, _, rfl, _, _, rfl, rfl, ?_⟩⟩
    have s1 := Same.new hp (.tup [.int ((left : Int) / 10), .int ((left : Int) % 10)])
    have ef1 := s1 _ _ ef
    have e1 : (left : Int) / 10 = ((left / 10 : Nat) : Int) := by omega
    have e2 : (left : Int) % 10 = ((left % 10 : Nat) : Int) := by omega
    rw [e1, e2] at s1 ef1 ⊢
    generalize upd H' p (.tup [.int ((left / 10 : Nat) : Int), .int ((left % 10 : Nat) : Int)]) = H1 at s1 ef1 ⊢
    refine ⟨_, rfl, .inl ⟨rfl, _, SqL.of ef1⟩, _, rfl, _, _, _, rfl, rfl, le_line (by decide), fig_at (left % 10) (by omega), pf, _, _, rfl, rfl, ef1, small1000 (by rw [List.length_map]; omega), ?_⟩
    refine ⟨left / 10 + (if fs ++ [48 + left % 10] = [] then 1 else 0), ?_, left / 10, fs ++ [48 + left % 10], _, rfl, ?_, (S.trans s1).upd nf, hF.step hc, rfl⟩
    · rw [if_neg (by simp)]
      rcases hc with hc | hc
      · omega
      · rw [if_pos hc]; omega
    · rw [upd_same, List.map_append]; rfl
  case fin =>
    intro h1 h2
    have hfs : fs.reverse = dg i.natAbs := by
      rcases hF with ⟨h, _⟩ | ⟨_, _, h⟩ | ⟨_, h, _⟩
      · exact absurd h h1
      · exact h
      · omega
    refine ⟨_, rfl, .inl ⟨rfl, _, SqL.of ef⟩, _, rfl, _, _, rfl, rfl, _, rfl, ite2 (fun c => ?_) (fun c => ?_)⟩
    · have ci : i < 0 := of_decide_eq_true c
      obtain ⟨e1, e2, e3⟩ := fig_end (i := i) (z := [126]) hfs (by omega) (by unfold wn; rw [if_pos ci]) (by decide)
      refine ⟨pf, _, _, rfl, rfl, ef, small1000 (by rw [List.length_map]; omega), _, rfl, pf, _, rfl, SqL.of (upd_same.trans (congrArg some (congrArg HO.lst e1))), e2, ?_⟩
      have e3' : Txt.join ("" : Str) (fs.map (fun c => mkS [c]) ++ [mkS [126]]).reverse = mkS (wn i) := e3
      rw [e3']
      exact q _ (S.upd nf)
    · have ci : ¬ i < 0 := fun z => c (decide_eq_true z)
      obtain ⟨e1, e2, e3⟩ := fig_end (i := i) (z := []) hfs (by omega) (by unfold wn; rw [if_neg ci]) (by decide)
      refine ⟨pf, _, _, rfl, rfl, ef, small1000 (by rw [List.length_map]; omega), _, rfl, pf, _, rfl, SqL.of (upd_same.trans (congrArg some (congrArg HO.lst e1))), e2, ?_⟩
      have e3' : Txt.join ("" : Str) (fs.map (fun c => mkS [c]) ++ [mkS []]).reverse = mkS (wn i) := e3
      rw [e3']
      exact q _ (S.upd nf)
end
end Put
set_option Elab.async false
set_option linter.all false
set_option maxRecDepth 100000
set_option maxHeartbeats 2000000
namespace Put
open PySem L2
def isD (c : Nat) : Bool := decide (48 ≤ c ∧ c ≤ 57)
def figOk (l : List Nat) : Bool := if l = [] ∨ l.all isD = false then false else decide (l = [48]) || !decide (l.head? = some 48)
theorem ch_mk (c : Nat) : (⟨#[c]⟩ : Str) = mkS [c] := rfl
theorem bl_map_len {l : List Nat} {i : Nat} : ((l.take i).map isD |>.map V.bl).length ≤ l.length := by
  rw [List.length_map, List.length_map, List.length_take]; omega
section
variable {P : Program} {w : World} {K : PySem.W.Frag} {mg : Str → Option Value} {base : Heap} {f : Addr} {fd : FuncData}
def Asc (l : List Nat) : Prop := (mkS l).cps.all (· < 128) = true
def spFigs : Sp := fun vs H Q _ => ∃ l, vs = [.str (mkS l)] ∧ Asc l ∧ l.length ≤ 200 ∧ ∀ H', Same H H' → Q (.bl (figOk l)) H'
abbrev s_are_figures : Stmt := top 24
theorem sc_are_figures : FnScope ["text"] ["text"] (defScope s_are_figures) := ⟨rfl, rfl, rfl, by decide +kernel, rfl, by decide +kernel, by decide +kernel⟩
theorem ok_are_figures {t1 t2 : Tok} (F : Fun K "are_figures" "are_figures" s_are_figures f fd) (B : Bu K mg) (B2 : Cf K mg t1 t2) : FnOk P w K mg base CX0 1 f fd ["text"] spFigs := by
  refine F.ok sc_are_figures (fun vs H Q E h => ?_) (fun cdv A outer s H vs Q E hr h => ?_)
  · obtain ⟨x, rfl, _⟩ := h
    rfl
  obtain ⟨l, rfl, ha, hl, q⟩ := h
  refine ⟨_, (@pss_cons _ _ _ _ _ (@ps_if _ _ _ _ _ _ _ _ (@PW.pt _ _ _ (@pw_or _ _ _ _ _ _ _ (@pt_cmpR _ _ _ _ _ _ _ _ op_eq (@pv _ 0 _ _ (by rfl) (by first | exact Or.inl rfl | exact Or.inr ( Or.inl rfl ) | exact Or.inr ( Or.inr rfl )) (by decide) (by decide)) pe_str (nomark _)) (@pw_or1 _ _ _ _ (@pt_not _ _ _ _ (@pt_val _ _ _ (@pe_callB _ _ _ _ _ _ _ _ _ (@call_all _ rfl) rfl B.iall PyProof.Rows.boot_all (@pa_cons _ _ _ _ _ (@pe_lc _ _ _ _ _ _ _ _ (["figure"]) ([none]) _ _ _ _ rfl (@pi_str _ _ _ _ (@pv _ 0 _ _ (by rfl) (by first | exact Or.inl rfl | exact Or.inr ( Or.inl rfl ) | exact Or.inr ( Or.inr rfl )) (by decide) (by decide))) rfl trivial trivial (fun _ _ _ _ => ⟨(@pg_name _ _ (0) _ (show List.Nodup (["figure"] : List Str) by decide +kernel) rfl (Or.inl rfl) (by first | exact .inl rfl | exact .inr rfl | assumption)), pifs_nil, (@pe_cmpR _ _ _ _ _ _ _ _ op_in_str (@pv _ 0 _ _ (by rfl) (by first | exact Or.inl rfl | exact Or.inr ( Or.inl rfl ) | exact Or.inr ( Or.inr rfl )) (by decide) (by decide)) (@pe_glob _ _ (.str "0123456789") _ _ rfl B2.gFIGURES ⟨_, rfl⟩ (by decide)) (by with_unfolding_all rfl))⟩) (by rfl) (by rfl) (by rfl) (by rfl) (by intro _; rfl)) pa_nil (by rfl)) (by decide) (by decide) (by rfl) (by rfl)) (by intro _; rfl)))))) (@pss_one _ _ _ (@ps_ret _ _ _ _ pe_bl)) pss_nil) (@pss_one _ _ _ (@ps_ret _ _ _ _ (@pe_or _ _ _ _ _ _ _ (@pe_cmpR _ _ _ _ _ _ _ _ op_eq (@pv _ 0 _ _ (by rfl) (by first | exact Or.inl rfl | exact Or.inr ( Or.inl rfl ) | exact Or.inr ( Or.inr rfl )) (by decide) (by decide)) pe_str (nomark _)) (@pe_one _ _ _ _ _ (@pe_cmpR _ _ _ _ _ _ _ _ op_ne (@pe_ix _ _ _ _ _ _ _ ix_str (@pv _ 0 _ _ (by rfl) (by first | exact Or.inl rfl | exact Or.inr ( Or.inl rfl ) | exact Or.inr ( Or.inr rfl )) (by decide) (by decide)) pe_int (fun _ _ => rfl)) pe_str (nomark _))))))), ?_⟩
  have e0 : decide (V.str (mkS l) = V.str ("" : Str)) = decide (l = []) := by rw [emp_eq]; exact str_dec l []
  refine ⟨_, rfl, rfl, _, rfl, ?_⟩
  rw [e0]
  by_cases c : l = []
  · rw [decide_eq_true c]
    refine iteT (iteT ?_)
    have := q H (Same.refl _)
    rw [show figOk l = false by unfold figOk; rw [if_pos (.inl c)]] at this
    exact this
  rw [decide_eq_false c]
  refine iteF ⟨_, rfl, _, rfl, ha, ?_⟩
  refine lc_str (fun i ys H' => H' = H ∧ ys = ((l.take i).map isD).map V.bl) ⟨rfl, rfl⟩ (fun i ys H' hi p => by rw [p.2]; exact small1000 (by have := bl_map_len (l := l) (i := i); omega)) (fun i cc ys H' hx p nx => ?_) (fun ys H' p p5 n5 => ?_)
  · obtain ⟨rfl, rfl⟩ := p
    rw [mkS_at] at hx
    refine ⟨_, rfl, _, _, rfl, rfl, ?_⟩
    rw [ch_mk, fig_in]
    refine nx ⟨rfl, ?_⟩
    rw [List.take_add_one, hx, List.map_append, List.map_append]
    rfl
  obtain ⟨rfl, rfl⟩ := p
  rw [mkS_size, List.take_length] at *
  refine ⟨p5, _, rfl, SqL.of upd_same, ?_⟩
  have ea : (l.map isD).all id = l.all isD := by rw [List.all_map]; rfl
  have S := Same.new n5 (.lst ((l.map isD).map V.bl))
  generalize upd H' p5 (.lst ((l.map isD).map V.bl)) = H1 at S ⊢
  rw [ea]
  have q1 := q H1 S
  cases hall : l.all isD with
  | false =>
    refine ⟨_, rfl, iteT ?_⟩
    rw [show figOk l = false by unfold figOk; rw [if_pos (.inr hall)]] at q1
    exact q1
  | true =>
    refine ⟨_, rfl, iteF ?_⟩
    have e1 : decide (V.str (mkS l) = V.str ("0" : Str)) = decide (l = [48]) := by rw [show ("0" : Str) = mkS [48] by decide +kernel]; exact str_dec l [48]
    refine ⟨_, rfl, rfl, _, rfl, ?_⟩
    rw [e1]
    have hf : figOk l = (decide (l = [48]) || !decide (l.head? = some 48)) := by unfold figOk; rw [if_neg]; rw [hall]; intro z; rcases z with z | z; exact c z; cases z
    rw [hf] at q1
    by_cases c2 : l = [48]
    · rw [decide_eq_true c2] at q1 ⊢
      exact iteT q1
    · rw [decide_eq_false c2] at q1 ⊢
      refine iteF ?_
      cases l with
      | nil => exact absurd rfl c
      | cons a r =>
        refine ⟨_, rfl, _, _, _, rfl, rfl, le_line (by rw [mkS_len]; omega), (by rw [mkS_list]; exact atI_nat (j := 0) rfl), rfl, ?_⟩
        have e3 : decide (V.str (⟨#[a]⟩ : Str) = V.str ("0" : Str)) = decide (a = 48) := by
          rw [show ("0" : Str) = mkS [48] by decide +kernel, ch_mk, str_dec]
          simp
        rw [e3]
        have e4 : decide ((a :: r).head? = some 48) = decide (a = 48) := by simp
        rw [e4] at q1
        exact q1
def nop (l : List Nat) : List Nat := if l.head? = some 126 then l.tail else l
def readN (l : List Nat) : Option Int := if figOk (nop l) = false ∨ l = [126, 48] then none else some (if l.head? = some 126 then -(rd (nop l) : Int) else rd (nop l))
theorem readN_wn (i : Int) : readN (wn i) = some i := by
  have hn : nop (wn i) = dg i.natAbs := by
    unfold nop wn
    by_cases c : i < 0
    · rw [if_pos c]; simp
    · rw [if_neg c]
      have : (dg i.natAbs).head? ≠ some 126 := fun z => by
        have := dg_mem _ _ (List.mem_of_mem_head? z); omega
      simp [this]
  have hf : figOk (dg i.natAbs) = true := by
    unfold figOk
    rw [if_neg]
    · by_cases c : i.natAbs = 0
      · rw [c, dg_small (by decide)]; rfl
      · have := dg_lead _ c
        rw [decide_eq_false this]; simp
    · intro z
      rcases z with z | z
      · exact dg_ne _ z
      · have : (dg i.natAbs).all isD = true := by
          rw [List.all_eq_true]
          intro c hc
          exact decide_eq_true (dg_mem _ c hc)
        rw [this] at z; cases z
  have h0 : wn i ≠ [126, 48] := fun z => by
    unfold wn at z
    by_cases c : i < 0
    · rw [if_pos c] at z
      have z : dg i.natAbs = [48] := by simpa using z
      have := dg_val i.natAbs
      rw [z] at this
      have : (0 : Nat) = i.natAbs := this
      omega
    · rw [if_neg c] at z
      have := dg_mem i.natAbs 126 (by rw [show dg i.natAbs = [126, 48] by simpa using z]; simp)
      omega
  unfold readN
  rw [hn, hf, if_neg (by simp [h0]), dg_val]
  unfold wn
  by_cases c : i < 0
  · rw [if_pos c]
    simp; omega
  · rw [if_neg c]
    have : (dg i.natAbs).head? ≠ some 126 := fun z => by
      have := dg_mem _ _ (List.mem_of_mem_head? z); omega
    simp [this]; omega
theorem readN_none {l : List Nat} (c : Nat) (h : c ∈ l) (hc : c ≠ 126 ∧ ¬ (48 ≤ c ∧ c ≤ 57)) : readN l = none := by
  have hm : c ∈ nop l := by
    unfold nop
    split
    · cases l with
      | nil => cases h
      | cons a r =>
        rename_i z
        have z : a = 126 := by simpa using z
        rcases List.mem_cons.mp h with e | e
        · omega
        · exact e
    · exact h
  have : (nop l).all isD = false := by
    rw [List.all_eq_false]
    exact ⟨c, hm, by simpa [isD] using hc.2⟩
  unfold readN figOk
  rw [if_pos]
  left
  rw [if_pos (.inr this)]
theorem readN_node (g : Sg) (l r : Wy) : readN (Wy.node g l r).tx = none :=
  readN_none g.code (List.mem_append_right _ List.mem_cons_self) (by cases g <;> decide)
theorem asc_sub {a b : List Nat} (h : Asc b) (s : ∀ c ∈ a, c ∈ b) : Asc a := by
  unfold Asc mkS at *
  rw [Array.all_eq_true'] at *
  intro c hc
  exact h c (by simpa using s c (by simpa using hc))
def optI : Option Int → V
  | none => .non
  | some i => .int i
def spReadN : Sp := fun vs H Q _ => ∃ l, vs = [.str (mkS l)] ∧ Asc l ∧ l.length ≤ 200 ∧ ∀ H', Same H H' → Q (optI (readN l)) H'
abbrev s_read_number : Stmt := top 25
theorem sc_read_number : FnScope ["text", "figures", "number", "figure"] ["text"] (defScope s_read_number) := ⟨rfl, rfl, rfl, by decide +kernel, rfl, by decide +kernel, by decide +kernel⟩
theorem ok_read_number {t1 t2 : Tok} (F : Fun K "read_number" "read_number" s_read_number f fd) (B : Bu K mg) (B2 : Cf K mg t1 t2) (C_are_figures : Cal P w K mg base "are_figures" 1 ["text"] spFigs) : FnOk P w K mg base CX0 2 f fd ["text"] spReadN := by
  refine F.ok sc_read_number (fun vs H Q E h => ?_) (fun cdv A outer s H vs Q E hr h => ?_)
  · obtain ⟨x, rfl, _⟩ := h
    rfl
  obtain ⟨l, rfl, ha, hl, q⟩ := h
  refine ⟨_, (@pss_cons _ _ _ _ _ (@ps_set _ _ (1) _ _ _ _ (sc_read_number).nd rfl (Or.inl rfl) (@pe_bm _ _ _ _ _ _ _ _ _ _ _ _ PySem.F.plainAttrs_str PySem.F.slot_str_removeprefix PySem.F.type_str_removeprefix mt_str_removeprefix (@pv _ 0 _ _ (by rfl) (by first | exact Or.inl rfl | exact Or.inr ( Or.inl rfl ) | exact Or.inr ( Or.inr rfl )) (by decide) (by decide)) (@pa_cons _ _ _ _ _ (@pe_glob _ _ (.str "~") _ _ rfl B2.gBELOW ⟨_, rfl⟩ (by decide)) pa_nil (by rfl)) (by rfl) (by rfl) (by rfl) (by rfl) (by rfl)) (by rfl) (by first | exact .inl rfl | exact .inr rfl | assumption)) (@pss_cons _ _ _ _ _ (@ps_if _ _ _ _ _ _ _ _ (@PW.pt _ _ _ (@pw_or _ _ _ _ _ _ _ (@pt_not _ _ _ _ (@pt_val _ _ _ (@pe_cal _ _ _ _ _ _ _ _ _ _ _ C_are_figures hr (by omega) rfl (@pa_cons _ _ _ _ _ (@pv _ 1 _ _ (by rfl) (by first | exact Or.inl rfl | exact Or.inr ( Or.inl rfl ) | exact Or.inr ( Or.inr rfl )) (by decide) (by decide)) pa_nil (by rfl)) (by decide) (by rfl) (by rfl)) (by intro _; rfl))) (@pw_or1 _ _ _ _ (@pt_cmpR _ _ _ _ _ _ _ _ op_eq (@pv _ 0 _ _ (by rfl) (by first | exact Or.inl rfl | exact Or.inr ( Or.inl rfl ) | exact Or.inr ( Or.inr rfl )) (by decide) (by decide)) pe_str (nomark _))))) (@pss_one _ _ _ (@ps_ret _ _ _ _ pe_non)) pss_nil) (@pss_cons _ _ _ _ _ (@ps_set _ _ (2) _ _ _ _ (sc_read_number).nd rfl (Or.inl rfl) pe_int (by rfl) (by first | exact .inl rfl | exact .inr rfl | assumption)) (@pss_cons _ _ _ _ _ (@ps_for _ _ _ _ _ _ _ _ PassesOwn.never rfl (@pi_str _ _ _ _ (@pv _ 1 _ _ (by rfl) (by first | exact Or.inl rfl | exact Or.inr ( Or.inl rfl ) | exact Or.inr ( Or.inr rfl )) (by decide) (by decide))) (@pg_name _ _ (3) _ (sc_read_number).nd rfl (Or.inl rfl) (by first | exact .inl rfl | exact .inr rfl | assumption)) (@pss_one _ _ _ (@ps_set _ _ (2) _ _ _ _ (sc_read_number).nd rfl (Or.inl rfl) (@pe_op _ _ _ _ _ _ _ _ op_add (@pe_op _ _ _ _ _ _ _ _ op_mul (@pv _ 2 _ _ (by rfl) (by first | exact Or.inl rfl | exact Or.inr ( Or.inl rfl ) | exact Or.inr ( Or.inr rfl )) (by decide) (by decide)) pe_int) (@pe_callTy _ _ _ _ _ _ _ _ _ call_int_text rfl B.iint PyProof.Rows.boot_int (@pa_cons _ _ _ _ _ (@pv _ 3 _ _ (by rfl) (by first | exact Or.inl rfl | exact Or.inr ( Or.inl rfl ) | exact Or.inr ( Or.inr rfl )) (by decide) (by decide)) pa_nil (by rfl)) (by decide) (by decide) (by rfl) (by rfl))) (by rfl) (by first | exact .inl rfl | exact .inr rfl | assumption))) (by intro _; rfl)) (@pss_one _ _ _ (@ps_ret _ _ _ _ (@pe_ifExp _ _ _ _ _ _ _ _ (@pt_cmpR _ _ _ _ _ _ _ _ op_eq (@pv _ 0 _ _ (by rfl) (by first | exact Or.inl rfl | exact Or.inr ( Or.inl rfl ) | exact Or.inr ( Or.inr rfl )) (by decide) (by decide)) (@pv _ 1 _ _ (by rfl) (by first | exact Or.inl rfl | exact Or.inr ( Or.inl rfl ) | exact Or.inr ( Or.inr rfl )) (by decide) (by decide)) (nomark _)) (@pv _ 2 _ _ (by rfl) (by first | exact Or.inl rfl | exact Or.inr ( Or.inl rfl ) | exact Or.inr ( Or.inr rfl )) (by decide) (by decide)) (@pe_un _ _ _ _ _ _ un_neg (@pv _ 2 _ _ (by rfl) (by first | exact Or.inl rfl | exact Or.inr ( Or.inl rfl ) | exact Or.inr ( Or.inr rfl )) (by decide) (by decide)))))))))), ?_⟩
  have hnl : (nop l).length ≤ 200 := by unfold nop; split <;> (try rw [List.length_tail]) <;> omega
  have hna : Asc (nop l) := asc_sub ha fun c hc => by
    unfold nop at hc
    split at hc
    · exact List.mem_of_mem_tail hc
    · exact hc
  have er : Txt.removeprefix (mkS l) ("~" : Str) = mkS (nop l) := by rw [below_eq]; exact remp1 l 126
  refine ⟨_, rfl, rfl, _, _, rfl, rfl, le_line (by rw [mkS_len]; omega), ?_⟩
  rw [er]
  refine ⟨_, rfl, nop l, rfl, hna, hnl, fun H1 s1 => ?_⟩
  have e1 : decide (V.str (mkS l) = V.str ("~0" : Str)) = decide (l = [126, 48]) := by rw [show ("~0" : Str) = mkS [126, 48] by decide +kernel]; exact str_dec l _
  by_cases c1 : figOk (nop l) = false
  · refine ⟨_, rfl, ?_⟩
    rw [c1]
    refine iteT (iteT ?_)
    have := q H1 s1
    rw [show readN l = none by unfold readN; rw [if_pos (.inl c1)]] at this
    exact this
  have c1 : figOk (nop l) = true := by simpa using c1
  refine ⟨_, rfl, ?_⟩
  rw [c1]
  refine iteF ⟨_, rfl, rfl, _, rfl, ?_⟩
  rw [e1]
  by_cases c2 : l = [126, 48]
  · rw [decide_eq_true c2]
    refine iteT ?_
    have := q H1 s1
    rw [show readN l = none by unfold readN; rw [if_pos (.inr c2)]] at this
    exact this
  rw [decide_eq_false c2]
  refine iteF ?_
  have hdig : ∀ c ∈ nop l, 48 ≤ c ∧ c ≤ 57 := fun c hc => by
    unfold figOk at c1
    split at c1
    · cases c1
    · rename_i z
      have : (nop l).all isD = true := by
        cases h : (nop l).all isD with
        | true => rfl
        | false => exact absurd (.inr h) z
      exact of_decide_eq_true (List.all_eq_true.mp this c hc)
  refine ⟨_, rfl, _, rfl, hna, for_str (fun i σ H' => H' = H1 ∧ ∃ fg, σ = [some (.str (mkS l)), some (.str (mkS (nop l))), some (.int (rd ((nop l).take i))), fg]) ⟨rfl, _, rfl⟩ ?_ ?_⟩
  · rintro i c σ H' hc ⟨rfl, fg, rfl⟩
    rw [mkS_at] at hc
    have hcd := hdig c (List.mem_of_getElem? hc)
    refine ⟨_, rfl, _, _, rfl, rfl, .inr ⟨by decide, by decide⟩, _, rfl, _, _, rfl, fig_int c hcd, (by show 1 ≤ 640; decide), _, _, rfl, rfl, rfl, some (.str ⟨#[c]⟩), ?_⟩
    rw [List.take_add_one, hc]
    have : rd ((nop l).take i ++ [c]) = rd ((nop l).take i) * 10 + (c - 48) := by unfold rd; rw [List.foldl_append]; rfl
    show _ = [some _, some _, some (V.int ((rd ((nop l).take i ++ [c]) : Nat) : Int)), _]
    rw [this]
    rfl
  · rintro σ H' ⟨rfl, fg, rfl⟩
    have q1 := q H' s1
    rw [mkS_size, List.take_length]
    have e2 : decide (V.str (mkS l) = V.str (mkS (nop l))) = !decide (l.head? = some 126) := by
      rw [str_dec]
      unfold nop
      by_cases c : l.head? = some 126
      · rw [if_pos c, decide_eq_true c]
        cases l with
        | nil => simp at c
        | cons a r => simp
      · rw [if_neg c, decide_eq_false c]; simp
    have hR : readN l = some (if l.head? = some 126 then -(rd (nop l) : Int) else rd (nop l)) := by unfold readN; rw [if_neg]; intro z; rcases z with z | z; rw [c1] at z; cases z; exact c2 z
    rw [hR] at q1
    refine ⟨_, rfl, _, rfl, rfl, _, rfl, ?_⟩
    rw [e2]
    by_cases c : l.head? = some 126
    · rw [decide_eq_true c]
      rw [if_pos c] at q1
      exact iteF ⟨_, rfl, _, rfl, q1⟩
    · rw [decide_eq_false c]
      rw [if_neg c] at q1
      exact iteT ⟨_, rfl, q1⟩
end
end Put
set_option Elab.async false
set_option linter.all false
set_option maxRecDepth 100000
set_option maxHeartbeats 2000000
namespace Put
open PySem L2
theorem br_mk (l : List Nat) : ("(" : Str) ++ mkS l ++ (")" : Str) = mkS (40 :: l ++ [41]) := by
  rw [show ("(" : Str) = mkS [40] by decide +kernel, show (")" : Str) = mkS [41] by decide +kernel, mkS_app, mkS_app]
  rfl
theorem br_asc {b : Bool} {w : Wy} : Asc (br b w.tx) := okc_ascii fun c hc => by
  rcases br_mem hc with h | h | h
  · exact tx_mem w c h
  · exact .inr (.inr (.inl h))
  · exact .inr (.inr (.inr (.inl h)))
theorem tx_asc (w : Wy) : Asc w.tx := okc_ascii (tx_mem w)
theorem small_l {g : Sg} {l r : Wy} (h : Small (Wy.node g l r).nums) : Small l.nums := fun i hi => h i (List.mem_append_left _ hi)
theorem small_r {g : Sg} {l r : Wy} (h : Small (Wy.node g l r).nums) : Small r.nums := fun i hi => h i (List.mem_append_right _ hi)
section
variable {P : Program} {w : World} {K : PySem.W.Frag} {mg : Str → Option Value} {base : Heap} {f : Addr} {fd : FuncData}
def spPutB : Sp := fun vs H Q _ => ∃ l b, vs = [.str (mkS l), .bl b] ∧ l.length ≤ 900 ∧ Q (.str (mkS (br b l))) H
abbrev s_put_brackets : Stmt := top 27
theorem sc_put_brackets : FnScope ["text", "is_due"] ["text", "is_due"] (defScope s_put_brackets) := ⟨rfl, rfl, rfl, by decide +kernel, rfl, by decide +kernel, by decide +kernel⟩
theorem ok_put_brackets (F : Fun K "put_brackets" "put_brackets" s_put_brackets f fd) : FnOk P w K mg base CX0 1 f fd ["text", "is_due"] spPutB := by
  refine F.ok sc_put_brackets (fun vs H Q E h => ?_) (fun cdv A outer s H vs Q E hr h => ?_)
  · obtain ⟨l, b, rfl, _⟩ := h
    rfl
  obtain ⟨l, b, rfl, hl, q⟩ := h
  refine ⟨_, (@pss_one _ _ _ (@ps_ret _ _ _ _ (@pe_ifExp _ _ _ _ _ _ _ _ (@pt_truth _ _ _ (@pv _ 1 _ _ (by rfl) (by first | exact Or.inl rfl | exact Or.inr ( Or.inl rfl ) | exact Or.inr ( Or.inr rfl )) (by decide) (by decide)) (fun _ => rfl)) (@pe_f3 _ _ _ _ _ _ _ _ _ _ _ (@pv _ 0 _ _ (by rfl) (by first | exact Or.inl rfl | exact Or.inr ( Or.inl rfl ) | exact Or.inr ( Or.inr rfl )) (by decide) (by decide)) (by decide)) (@pv _ 0 _ _ (by rfl) (by first | exact Or.inl rfl | exact Or.inr ( Or.inl rfl ) | exact Or.inr ( Or.inr rfl )) (by decide) (by decide))))), ?_⟩
  cases b with
  | false => exact ⟨_, rfl, false, rfl, iteF ⟨_, rfl, q⟩⟩
  | true =>
    refine ⟨_, rfl, true, rfl, iteT ⟨_, rfl, _, rfl, le_line (by rw [mkS_len]; omega), ?_, ?_, ?_⟩⟩
    · rw [show ("(" : Str) = mkS [40] by decide +kernel, mkS_app, mkS_len]; exact le_line (by simp; omega)
    · rw [br_mk, mkS_len]; exact le_line (by simp; omega)
    · rw [br_mk]; exact q
def spWW (n : Nat) : Sp := fun vs H Q _ => ∃ w v, vs = [v] ∧ WyIn H w v ∧ w.size ≤ 9 ∧ w.deep ≤ n ∧ Small w.nums ∧ ∀ H', Same H H' → Q (.str (mkS w.tx)) H'
abbrev s_write_way : Stmt := top 26
theorem sc_write_way : FnScope ["way", "sign", "left", "right", "left_text", "right_text"] ["way"] (defScope s_write_way) := ⟨rfl, rfl, rfl, by decide +kernel, rfl, by decide +kernel, by decide +kernel⟩
theorem ok_write_way (F : Fun K "write_way" "write_way" s_write_way f fd) (bF : Binds K fd ["way"] []) (mF : mg "write_way" = some (.ref f)) (C_is_whole : Cal P w K mg base "is_whole" 1 ["thing"] (spWhole K)) (C_write_number : Cal P w K mg base "write_number" 1 ["number"] spWN) (C_own_sign : Cal P w K mg base "own_sign" 2 ["way"] spOwn)
    (C_left_in_brackets : Cal P w K mg base "left_in_brackets" 1 ["sign", "left_sign"] spLeft) (C_right_in_brackets : Cal P w K mg base "right_in_brackets" 1 ["sign", "right_sign"] spRightB) (C_put_brackets : Cal P w K mg base "put_brackets" 1 ["text", "is_due"] spPutB) :
    ∀ n, FnOk P w K mg base CX0 (n + 3) f fd ["way"] (spWW n) := by
  intro n
  induction n with
  | zero =>
    refine ⟨fun vs H Q E h => ?_, fun A outer s H args us vs Q E _ _ _ _ h => ?_⟩
    · obtain ⟨x, v, rfl, _⟩ := h
      rfl
    · obtain ⟨wy, v, _, _, _, hd, _⟩ := h
      cases wy <;> exact absurd hd (by simp [Wy.deep])
  | succ n ih =>
    have C_write_way : Cal P w K mg base "write_way" (n + 3) ["way"] (spWW n) := ⟨f, fd, ih, bF, F.kp, mF⟩
    refine F.ok sc_write_way (fun vs H Q E h => ?_) (fun cdv A outer s H vs Q E hr h => ?_)
    · obtain ⟨x, v, rfl, _⟩ := h
      rfl
    obtain ⟨wy, v, rfl, hw, h9, hd, hs, q⟩ := h
    refine ⟨_, (@pss_cons _ _ _ _ _ (@ps_if _ _ _ _ _ _ _ _ (@pt_val _ _ _ (@pe_cal _ _ _ _ _ _ _ _ _ _ _ C_is_whole hr (by omega) rfl (@pa_cons _ _ _ _ _ (@pv _ 0 _ _ (by rfl) (by first | exact Or.inl rfl | exact Or.inr ( Or.inl rfl ) | exact Or.inr ( Or.inr rfl )) (by decide) (by decide)) pa_nil (by rfl)) (by decide) (by rfl) (by rfl)) (by intro _; rfl)) (@pss_one _ _ _ (@ps_ret _ _ _ _ (@pe_cal _ _ _ _ _ _ _ _ _ _ _ C_write_number hr (by omega) rfl (@pa_cons _ _ _ _ _ (@pv _ 0 _ _ (by rfl) (by first | exact Or.inl rfl | exact Or.inr ( Or.inl rfl ) | exact Or.inr ( Or.inr rfl )) (by decide) (by decide)) pa_nil (by rfl)) (by decide) (by rfl) (by rfl)))) pss_nil) (@pss_cons _ _ _ _ _ (@ps_asg _ _ _ _ _ _ (@pv _ 0 _ _ (by rfl) (by first | exact Or.inl rfl | exact Or.inr ( Or.inl rfl ) | exact Or.inr ( Or.inr rfl )) (by decide) (by decide)) (@pg_tup _ _ _ _ _ _ rfl (@pgs_cons _ _ _ _ _ (@pg_name _ _ (1) _ (sc_write_way).nd rfl (Or.inl rfl) (by first | exact .inl rfl | exact .inr rfl | assumption)) (@pgs_cons _ _ _ _ _ (@pg_name _ _ (2) _ (sc_write_way).nd rfl (Or.inl rfl) (by first | exact .inl rfl | exact .inr rfl | assumption)) (@pgs_cons _ _ _ _ _ (@pg_name _ _ (3) _ (sc_write_way).nd rfl (Or.inl rfl) (by first | exact .inl rfl | exact .inr rfl | assumption)) pgs_nil (by rfl)) (by rfl)) (by rfl)) (by rfl) (by rfl)) (by rfl) (by rfl) (by rfl)) (@pss_cons _ _ _ _ _ (@ps_set _ _ (4) _ _ _ _ (sc_write_way).nd rfl (Or.inl rfl) (@pe_cal _ _ _ _ _ _ _ _ _ _ _ C_put_brackets hr (by omega) rfl (@pa_cons _ _ _ _ _ (@pe_cal _ _ _ _ _ _ _ _ _ _ _ C_write_way hr (by omega) rfl (@pa_cons _ _ _ _ _ (@pv _ 2 _ _ (by rfl) (by first | exact Or.inl rfl | exact Or.inr ( Or.inl rfl ) | exact Or.inr ( Or.inr rfl )) (by decide) (by decide)) pa_nil (by rfl)) (by decide) (by rfl) (by rfl)) (@pa_cons _ _ _ _ _ (@pe_cal _ _ _ _ _ _ _ _ _ _ _ C_left_in_brackets hr (by omega) rfl (@pa_cons _ _ _ _ _ (@pv _ 1 _ _ (by rfl) (by first | exact Or.inl rfl | exact Or.inr ( Or.inl rfl ) | exact Or.inr ( Or.inr rfl )) (by decide) (by decide)) (@pa_cons _ _ _ _ _ (@pe_cal _ _ _ _ _ _ _ _ _ _ _ C_own_sign hr (by omega) rfl (@pa_cons _ _ _ _ _ (@pv _ 2 _ _ (by rfl) (by first | exact Or.inl rfl | exact Or.inr ( Or.inl rfl ) | exact Or.inr ( Or.inr rfl )) (by decide) (by decide)) pa_nil (by rfl)) (by decide) (by rfl) (by rfl)) pa_nil (by rfl)) (by rfl)) (by decide) (by rfl) (by rfl)) pa_nil (by rfl)) (by rfl)) (by decide) (by rfl) (by rfl)) (by rfl) (by first | exact .inl rfl | exact .inr rfl | assumption)) (@pss_cons _ _ _ _ _ (@ps_set _ _ (5) _ _ _ _ (sc_write_way).nd rfl (Or.inl rfl) (@pe_cal _ _ _ _ _ _ _ _ _ _ _ C_put_brackets hr (by omega) rfl (@pa_cons _ _ _ _ _ (@pe_cal _ _ _ _ _ _ _ _ _ _ _ C_write_way hr (by omega) rfl (@pa_cons _ _ _ _ _ (@pv _ 3 _ _ (by rfl) (by first | exact Or.inl rfl | exact Or.inr ( Or.inl rfl ) | exact Or.inr ( Or.inr rfl )) (by decide) (by decide)) pa_nil (by rfl)) (by decide) (by rfl) (by rfl)) (@pa_cons _ _ _ _ _ (@pe_cal _ _ _ _ _ _ _ _ _ _ _ C_right_in_brackets hr (by omega) rfl (@pa_cons _ _ _ _ _ (@pv _ 1 _ _ (by rfl) (by first | exact Or.inl rfl | exact Or.inr ( Or.inl rfl ) | exact Or.inr ( Or.inr rfl )) (by decide) (by decide)) (@pa_cons _ _ _ _ _ (@pe_cal _ _ _ _ _ _ _ _ _ _ _ C_own_sign hr (by omega) rfl (@pa_cons _ _ _ _ _ (@pv _ 3 _ _ (by rfl) (by first | exact Or.inl rfl | exact Or.inr ( Or.inl rfl ) | exact Or.inr ( Or.inr rfl )) (by decide) (by decide)) pa_nil (by rfl)) (by decide) (by rfl) (by rfl)) pa_nil (by rfl)) (by rfl)) (by decide) (by rfl) (by rfl)) pa_nil (by rfl)) (by rfl)) (by decide) (by rfl) (by rfl)) (by rfl) (by first | exact .inl rfl | exact .inr rfl | assumption)) (@pss_one _ _ _ (@ps_ret _ _ _ _ (@pe_op _ _ _ _ _ _ _ _ op_add_str (@pe_op _ _ _ _ _ _ _ _ op_add_str (@pv _ 4 _ _ (by rfl) (by first | exact Or.inl rfl | exact Or.inr ( Or.inl rfl ) | exact Or.inr ( Or.inr rfl )) (by decide) (by decide)) (@pv _ 1 _ _ (by rfl) (by first | exact Or.inl rfl | exact Or.inr ( Or.inl rfl ) | exact Or.inr ( Or.inr rfl )) (by decide) (by decide))) (@pv _ 5 _ _ (by rfl) (by first | exact Or.inl rfl | exact Or.inr ( Or.inl rfl ) | exact Or.inr ( Or.inr rfl )) (by decide) (by decide))))))))), ?_⟩
    cases wy with
    | num i =>
      cases hw
      exact ⟨_, rfl, _, "int", rfl, .int i, true, rfl, iteT ⟨_, rfl, i, rfl, hs i (by simp [Wy.nums]), fun H1 s1 => q H1 s1⟩⟩
    | node g l r =>
      have hw0 := hw
      obtain ⟨a, vl, vr, rfl, ha, hl, hr'⟩ := hw
      have d : max l.deep r.deep + 1 ≤ n + 1 := hd
      have z : l.size + r.size ≤ 9 := h9
      have lp := l.size_pos; have rp := r.size_pos
      have tl := tx_len l (small_l hs)
      have tr := tx_len r (small_r hs)
      have tb := br_len (leftB g l.os) l.tx
      have tb2 := br_len (rightB g r.os) r.tx
      refine ⟨_, rfl, _, "tuple", rfl, .tup ha, false, rfl, iteF ?_⟩
      refine ⟨_, rfl, a, _, rfl, SqT.of ha, rfl, _, _, rfl, _, _, rfl, _, _, rfl, rfl, ?_⟩
      refine ⟨_, rfl, l, vl, rfl, hl, by omega, by omega, small_l hs, fun H1 g1 => ?_⟩
      refine ⟨_, rfl, _, rfl, l, vl, rfl, hl.mono (Tups.of g1), g, l.os, rfl, fun H2 g2 => ⟨l.tx, _, rfl, by omega, ?_⟩⟩
      have g12 := g1.trans g2
      refine ⟨_, rfl, r, vr, rfl, hr'.mono (Tups.of g12), by omega, by omega, small_r hs, fun H3 g3 => ?_⟩
      refine ⟨_, rfl, _, rfl, r, vr, rfl, hr'.mono (Tups.of (g12.trans g3)), g, r.os, rfl, fun H4 g4 => ⟨r.tx, _, rfl, by omega, ?_⟩⟩
      refine ⟨_, rfl, _, rfl, _, _, rfl, rfl, le_line (by rw [mkS_len, sg_len]; omega), _, rfl, _, _, rfl, rfl, le_line (by rw [str_len, mkS_len, sg_len, mkS_len]; omega), ?_⟩
      have e : mkS (br (leftB g l.os) l.tx) ++ g.str ++ mkS (br (rightB g r.os) r.tx) = mkS (Wy.node g l r).tx := by
        rw [sg_str_code, mkS_app, mkS_app]
        show mkS _ = mkS (br (leftB g l.os) l.tx ++ g.code :: br (rightB g r.os) r.tx)
        simp
      rw [e]
      exact q H4 ((g12.trans g3).trans g4)
def optN : Option Nat → V
  | none => .non
  | some k => .int k
def spJoint : Sp := fun vs H Q _ => ∃ l, vs = [.str (mkS l)] ∧ Asc l ∧ ∀ H', Same H H' → Q (optN (joint l)) H'
theorem pm_in (c : Nat) : inV (.str (mkS [c])) [.str "+", .str "-"] = decide (c = 43 ∨ c = 45) := by
  rw [show ("+" : Str) = mkS [43] by decide +kernel, show ("-" : Str) = mkS [45] by decide +kernel]
  have e : ∀ k, eqV (V.str (mkS [k])) (V.str (mkS [c])) = decide (c = k) := fun k => by
    by_cases h : c = k
    · subst h; simp [eqV]
    · rw [decide_eq_false h]
      have : mkS [k] ≠ mkS [c] := fun z => h (by have := mkS_inj z; simp at this; exact this.symm)
      simp [eqV, this]
  show ([V.str (mkS [43]), V.str (mkS [45])].any fun y => eqV y (V.str (mkS [c]))) = _
  simp only [List.any_cons, List.any_nil, e, Bool.or_false]
  rw [Bool.eq_iff_iff]; simp
theorem c_eq (c k : Nat) : decide (V.str (⟨#[c]⟩ : Str) = V.str (mkS [k])) = decide (c = k) := by
  rw [ch_mk, str_dec]; simp
theorem lj_step (l : List Nat) (i c : Nat) (h : l[i]? = some c) : lj 0 (l.take (i + 1)) (0, none, none) = lj1 i c (lj 0 (l.take i) (0, none, none)) := by
  have hi : i < l.length := by
    have := (List.getElem?_eq_some_iff.mp h); exact this.1
  rw [List.take_add_one, h, Option.toList_some, lj_app, List.length_take, Nat.min_eq_left (by omega), Nat.zero_add]
  rfl
abbrev s_last_joint : Stmt := top 30
theorem sc_last_joint : FnScope ["text", "depth", "sums", "products", "at", "character"] ["text"] (defScope s_last_joint) := ⟨rfl, rfl, rfl, by decide +kernel, rfl, by decide +kernel, by decide +kernel⟩
theorem ok_last_joint (F : Fun K "last_joint" "last_joint" s_last_joint f fd) (B : Bu K mg) : FnOk P w K mg base CX0 1 f fd ["text"] spJoint := by
  refine F.ok sc_last_joint (fun vs H Q E h => ?_) (fun cdv A outer s H vs Q E hr h => ?_)
  · obtain ⟨l, rfl, _⟩ := h
    rfl
  obtain ⟨l, rfl, ha, q⟩ := h
  refine ⟨_, (@pss_cons _ _ _ _ _ (@ps_set _ _ (1) _ _ _ _ (sc_last_joint).nd rfl (Or.inl rfl) pe_int (by rfl) (by first | exact .inl rfl | exact .inr rfl | assumption)) (@pss_cons _ _ _ _ _ (@ps_set2 _ (2) (3) _ _ _ _ _ _ _ (sc_last_joint).nd rfl rfl (Or.inl rfl) (Or.inl rfl) pe_non (by rfl) (by rfl) (by first | exact .inl rfl | exact .inr rfl | assumption) (by first | exact .inl rfl | exact .inr rfl | assumption)) (@pss_cons _ _ _ _ _ (@ps_for _ _ _ _ _ _ _ _ PassesOwn.never rfl (@pi_enumS _ _ _ _ _ _ _ _ rfl B.ienumerate (@pa_cons _ _ _ _ _ (@pv _ 0 _ _ (by rfl) (by first | exact Or.inl rfl | exact Or.inr ( Or.inl rfl ) | exact Or.inr ( Or.inr rfl )) (by decide) (by decide)) pa_nil (by rfl)) (by rfl)) (@pg_tup _ _ _ _ _ _ rfl (@pgs_cons _ _ _ _ _ (@pg_name _ _ (4) _ (sc_last_joint).nd rfl (Or.inl rfl) (by first | exact .inl rfl | exact .inr rfl | assumption)) (@pgs_cons _ _ _ _ _ (@pg_name _ _ (5) _ (sc_last_joint).nd rfl (Or.inl rfl) (by first | exact .inl rfl | exact .inr rfl | assumption)) pgs_nil (by rfl)) (by rfl)) (by rfl) (by rfl)) (@pss_one _ _ _ (@ps_if _ _ _ _ _ _ _ _ (@pt_cmpR _ _ _ _ _ _ _ _ op_eq (@pv _ 5 _ _ (by rfl) (by first | exact Or.inl rfl | exact Or.inr ( Or.inl rfl ) | exact Or.inr ( Or.inr rfl )) (by decide) (by decide)) pe_str (nomark _)) (@pss_one _ _ _ (@ps_aug _ _ (1) _ _ _ _ _ _ (sc_last_joint).nd rfl (Or.inl rfl) pe_int ip_add (by first | exact .inl rfl | exact .inr rfl | assumption))) (@pss_one _ _ _ (@ps_if _ _ _ _ _ _ _ _ (@pt_cmpR _ _ _ _ _ _ _ _ op_eq (@pv _ 5 _ _ (by rfl) (by first | exact Or.inl rfl | exact Or.inr ( Or.inl rfl ) | exact Or.inr ( Or.inr rfl )) (by decide) (by decide)) pe_str (nomark _)) (@pss_one _ _ _ (@ps_aug _ _ (1) _ _ _ _ _ _ (sc_last_joint).nd rfl (Or.inl rfl) pe_int ip_sub (by first | exact .inl rfl | exact .inr rfl | assumption))) (@pss_one _ _ _ (@ps_if _ _ _ _ _ _ _ _ (@PW.pt _ _ _ (@pw_and _ _ _ _ _ _ _ (@pt_cmpR _ _ _ _ _ _ _ _ op_eq (@pv _ 1 _ _ (by rfl) (by first | exact Or.inl rfl | exact Or.inr ( Or.inl rfl ) | exact Or.inr ( Or.inr rfl )) (by decide) (by decide)) pe_int (nomark _)) (@pw_and1 _ _ _ _ (@pt_cmpR _ _ _ _ _ _ _ _ op_in_seq (@pv _ 5 _ _ (by rfl) (by first | exact Or.inl rfl | exact Or.inr ( Or.inl rfl ) | exact Or.inr ( Or.inr rfl )) (by decide) (by decide)) (@pe_tup _ _ _ _ _ (@pa_cons _ _ _ _ _ pe_str (@pa_cons _ _ _ _ _ pe_str pa_nil (by rfl)) (by rfl))) (by with_unfolding_all rfl))))) (@pss_one _ _ _ (@ps_set _ _ (2) _ _ _ _ (sc_last_joint).nd rfl (Or.inl rfl) (@pv _ 4 _ _ (by rfl) (by first | exact Or.inl rfl | exact Or.inr ( Or.inl rfl ) | exact Or.inr ( Or.inr rfl )) (by decide) (by decide)) (by rfl) (by first | exact .inl rfl | exact .inr rfl | assumption))) (@pss_one _ _ _ (@ps_if _ _ _ _ _ _ _ _ (@PW.pt _ _ _ (@pw_and _ _ _ _ _ _ _ (@pt_cmpR _ _ _ _ _ _ _ _ op_eq (@pv _ 1 _ _ (by rfl) (by first | exact Or.inl rfl | exact Or.inr ( Or.inl rfl ) | exact Or.inr ( Or.inr rfl )) (by decide) (by decide)) pe_int (nomark _)) (@pw_and1 _ _ _ _ (@pt_cmpR _ _ _ _ _ _ _ _ op_eq (@pv _ 5 _ _ (by rfl) (by first | exact Or.inl rfl | exact Or.inr ( Or.inl rfl ) | exact Or.inr ( Or.inr rfl )) (by decide) (by decide)) pe_str (nomark _))))) (@pss_one _ _ _ (@ps_set _ _ (3) _ _ _ _ (sc_last_joint).nd rfl (Or.inl rfl) (@pv _ 4 _ _ (by rfl) (by first | exact Or.inl rfl | exact Or.inr ( Or.inl rfl ) | exact Or.inr ( Or.inr rfl )) (by decide) (by decide)) (by rfl) (by first | exact .inl rfl | exact .inr rfl | assumption))) pss_nil)))))))) (by intro _; rfl)) (@pss_one _ _ _ (@ps_ret _ _ _ _ (@pe_ifExp _ _ _ _ _ _ _ _ (@pt_cmpR _ _ _ _ _ _ _ _ op_isN (@pv _ 2 _ _ (by rfl) (by first | exact Or.inl rfl | exact Or.inr ( Or.inl rfl ) | exact Or.inr ( Or.inr rfl )) (by decide) (by decide)) pe_non (nomark _)) (@pv _ 3 _ _ (by rfl) (by first | exact Or.inl rfl | exact Or.inr ( Or.inl rfl ) | exact Or.inr ( Or.inr rfl )) (by decide) (by decide)) (@pv _ 2 _ _ (by rfl) (by first | exact Or.inl rfl | exact Or.inr ( Or.inl rfl ) | exact Or.inr ( Or.inr rfl )) (by decide) (by decide)))))))), ?_⟩
  refine ⟨_, rfl, _, rfl, ha, for_enumS (fun i σ H' => Same H H' ∧ ∃ at' ch', σ = [some (.str (mkS l)), some (.int (lj 0 (l.take i) (0, none, none)).1), some (optN (lj 0 (l.take i) (0, none, none)).2.1), some (optN (lj 0 (l.take i) (0, none, none)).2.2), at', ch']) ⟨Same.refl _, _, _, rfl⟩ ?_ ?_⟩
  · rintro i c p σ H' hc ⟨S, a', c', rfl⟩ hp
    rw [mkS_at] at hc
    rw [lj_step l i c hc]
    generalize lj 0 (l.take i) (0, none, none) = st
    obtain ⟨d, x, y⟩ := st
    have S1 := S.trans (Same.new hp (.tup [.int i, .str ⟨#[c]⟩]))
    have hp1 : upd H' p (.tup [.int i, .str ⟨#[c]⟩]) p = some (.tup [.int i, .str ⟨#[c]⟩]) := upd_same
    generalize upd H' p (.tup [.int i, .str ⟨#[c]⟩]) = H1 at S1 hp1 ⊢
    refine ⟨p, _, rfl, SqT.of hp1, rfl, _, _, rfl, _, _, rfl, rfl, ?_⟩
    refine ⟨_, rfl, rfl, _, rfl, ?_⟩
    rw [show ("(" : Str) = mkS [40] by decide +kernel, c_eq]
    by_cases c1 : c = 40
    · have e1 : lj1 i c (d, x, y) = (d + 1, x, y) := by unfold lj1; rw [if_pos c1]
      rw [decide_eq_true c1, e1]
      exact iteT ⟨_, rfl, _, _, rfl, rfl, S1, _, _, rfl⟩
    rw [decide_eq_false c1]
    refine iteF ⟨_, rfl, rfl, _, rfl, ?_⟩
    rw [show (")" : Str) = mkS [41] by decide +kernel, c_eq]
    by_cases c2 : c = 41
    · have e1 : lj1 i c (d, x, y) = (d - 1, x, y) := by unfold lj1; rw [if_neg c1, if_pos c2]
      rw [decide_eq_true c2, e1]
      exact iteT ⟨_, rfl, _, _, rfl, rfl, S1, _, _, rfl⟩
    rw [decide_eq_false c2]
    refine iteF ?_
    have dz : decide (V.int d = V.int 0) = decide (d = 0) := by
      by_cases h : d = 0
      · subst h; rfl
      · rw [decide_eq_false h, decide_eq_false]; intro z; injection z with z; exact h z
    refine ⟨_, rfl, rfl, _, rfl, ?_⟩
    show if decide (V.int d = V.int 0) = true then _ else _
    rw [dz]
    by_cases c3 : d = 0
    · rw [decide_eq_true c3]
      refine iteT ⟨_, rfl, (by show 2 ≤ sizeLine; decide), fun t ht => ⟨t, _, rfl, .inr (SqT.of upd_same), rfl, rfl, _, rfl, ?_⟩⟩
      have S2 := S1.trans (Same.new ht (.tup [.str "+", .str "-"]))
      generalize upd H1 t (.tup [.str "+", .str "-"]) = H2 at S2 ⊢
      show if inV (.str (mkS [c])) [.str "+", .str "-"] = true then _ else _
      rw [pm_in]
      by_cases c4 : c = 43 ∨ c = 45
      · have e1 : lj1 i c (d, x, y) = (d, some i, y) := by unfold lj1; rw [if_neg c1, if_neg c2, if_pos ⟨c3, c4⟩]
        rw [decide_eq_true c4, e1]
        exact iteT ⟨_, rfl, S2, _, _, rfl⟩
      rw [decide_eq_false c4]
      refine iteF ⟨_, rfl, rfl, _, rfl, ?_⟩
      show if decide (V.int d = V.int 0) = true then _ else _
      rw [dz, decide_eq_true c3]
      refine iteT ⟨_, rfl, rfl, _, rfl, ?_⟩
      rw [show ("*" : Str) = mkS [42] by decide +kernel, c_eq]
      by_cases c5 : c = 42
      · have e1 : lj1 i c (d, x, y) = (d, x, some i) := by unfold lj1; rw [if_neg c1, if_neg c2, if_neg (fun z => c4 z.2), if_pos ⟨c3, c5⟩]
        rw [decide_eq_true c5, e1]
        exact iteT ⟨_, rfl, S2, _, _, rfl⟩
      · have e1 : lj1 i c (d, x, y) = (d, x, y) := by unfold lj1; rw [if_neg c1, if_neg c2, if_neg (fun z => c4 z.2), if_neg (fun z => c5 z.2)]
        rw [decide_eq_false c5, e1]
        exact iteF ⟨S2, _, _, rfl⟩
    · have e1 : lj1 i c (d, x, y) = (d, x, y) := by unfold lj1; rw [if_neg c1, if_neg c2, if_neg (fun z => c3 z.1), if_neg (fun z => c3 z.1)]
      rw [decide_eq_false c3, e1]
      refine iteF (iteF ⟨_, rfl, rfl, _, rfl, ?_⟩)
      show if decide (V.int d = V.int 0) = true then _ else _
      rw [dz, decide_eq_false c3]
      exact iteF (iteF ⟨S1, _, _, rfl⟩)
  · rintro σ H' ⟨S, a', c', rfl⟩
    rw [mkS_size, List.take_length]
    have q1 := q H' S
    unfold joint at q1
    generalize lj 0 l (0, none, none) = st at q1 ⊢
    obtain ⟨d, x, y⟩ := st
    cases x with
    | none => exact ⟨_, rfl, rfl, _, rfl, iteT ⟨_, rfl, q1⟩⟩
    | some k => exact ⟨_, rfl, rfl, _, rfl, iteF ⟨_, rfl, q1⟩⟩
end
end Put
set_option Elab.async false
set_option linter.all false
set_option maxRecDepth 100000
set_option maxHeartbeats 2000000
namespace Put
open PySem L2
theorem cnt_br (b : Bool) (l : List Nat) (c : Nat) (h : c ≠ 40 ∧ c ≠ 41) : (br b l).count c = l.count c := by
  cases b with
  | false => rfl
  | true =>
    show (40 :: l ++ [41]).count c = _
    rw [List.cons_append, List.count_cons_of_ne (Ne.symm h.1), List.count_append, List.count_cons_of_ne (Ne.symm h.2)]
    simp
theorem cnt_wn (i : Int) (c : Nat) (h : c ≠ 126 ∧ ¬ (48 ≤ c ∧ c ≤ 57)) : (wn i).count c = 0 := by
  rw [List.count_eq_zero]
  intro z
  have := wn_mem i c z
  omega
theorem cnt_signs : ∀ w : Wy, w.tx.count 43 + w.tx.count 45 + w.tx.count 42 + 1 = w.size
  | .num i => by
    show (wn i).count 43 + (wn i).count 45 + (wn i).count 42 + 1 = 1
    rw [cnt_wn i 43 (by decide), cnt_wn i 45 (by decide), cnt_wn i 42 (by decide)]
  | .node g l r => by
    have a := cnt_signs l; have b := cnt_signs r
    show (br (leftB g l.os) l.tx ++ g.code :: br (rightB g r.os) r.tx).count 43 + (br (leftB g l.os) l.tx ++ g.code :: br (rightB g r.os) r.tx).count 45 + (br (leftB g l.os) l.tx ++ g.code :: br (rightB g r.os) r.tx).count 42 + 1 = l.size + r.size
    simp only [List.count_append, List.count_cons]
    rw [cnt_br _ _ 43 (by decide), cnt_br _ _ 45 (by decide), cnt_br _ _ 42 (by decide), cnt_br _ _ 43 (by decide), cnt_br _ _ 45 (by decide), cnt_br _ _ 42 (by decide)]
    cases g <;> simp [Sg.code] <;> omega
theorem cnt_opn : ∀ w : Wy, ((w.tx.count 40 : Nat) : Int) = w.brk
  | .num i => by
    show (((wn i).count 40 : Nat) : Int) = 0
    rw [cnt_wn i 40 (by decide)]; rfl
  | .node g l r => by
    have a := cnt_opn l; have b := cnt_opn r
    have hb : ∀ (x : Bool) (l : List Nat), (((br x l).count 40 : Nat) : Int) = b1 x + (l.count 40 : Nat) := fun x l => by
      cases x with
      | false => simp [br, b1]
      | true =>
        show (((40 :: l ++ [41]).count 40 : Nat) : Int) = 1 + _
        simp [List.count_append, List.count_cons]; omega
    show (((br (leftB g l.os) l.tx ++ g.code :: br (rightB g r.os) r.tx).count 40 : Nat) : Int) = b1 (leftB g l.os) + b1 (rightB g r.os) + l.brk + r.brk
    rw [List.count_append, List.count_cons_of_ne (by cases g <;> decide)]
    have := hb (leftB g l.os) l.tx; have := hb (rightB g r.os) r.tx
    omega
section
variable {P : Program} {w : World} {K : PySem.W.Frag} {mg : Str → Option Value} {base : Heap} {f : Addr} {fd : FuncData}
def spWob : Sp := fun vs H Q _ => ∃ (b : Bool) (w : Wy), vs = [.str (mkS (br b w.tx))] ∧ w.tx.length ≤ 900 ∧ ∀ H', Same H H' → Q (.str (mkS w.tx)) H'
theorem opn_eq : ("(" : Str) = mkS [40] := by decide +kernel
theorem cls_eq : (")" : Str) = mkS [41] := by decide +kernel
abbrev s_without_brackets : Stmt := top 29
theorem sc_without_brackets : FnScope ["text"] ["text"] (defScope s_without_brackets) := ⟨rfl, rfl, rfl, by decide +kernel, rfl, by decide +kernel, by decide +kernel⟩
theorem ok_without_brackets (F : Fun K "without_brackets" "without_brackets" s_without_brackets f fd) (C_last_joint : Cal P w K mg base "last_joint" 1 ["text"] spJoint) : FnOk P w K mg base CX0 2 f fd ["text"] spWob := by
  refine F.ok sc_without_brackets (fun vs H Q E h => ?_) (fun cdv A outer s H vs Q E hr h => ?_)
  · obtain ⟨b, wy, rfl, _⟩ := h
    rfl
  obtain ⟨b, wy, rfl, hl, q⟩ := h
  refine ⟨_, (@pss_cons _ _ _ _ _ (@ps_if _ _ _ _ _ _ _ _ (@PW.pt _ _ _ (@pw_and _ _ _ _ _ _ _ (@pt_val _ _ _ (@pe_bm _ _ _ _ _ _ _ _ _ _ _ _ PySem.F.plainAttrs_str PySem.F.slot_str_startswith PySem.F.type_str_startswith mt_str_startswith (@pv _ 0 _ _ (by rfl) (by first | exact Or.inl rfl | exact Or.inr ( Or.inl rfl ) | exact Or.inr ( Or.inr rfl )) (by decide) (by decide)) (@pa_cons _ _ _ _ _ pe_str pa_nil (by rfl)) (by rfl) (by rfl) (by rfl) (by rfl) (by rfl)) (by intro _; rfl)) (@pw_and _ _ _ _ _ _ _ (@pt_val _ _ _ (@pe_bm _ _ _ _ _ _ _ _ _ _ _ _ PySem.F.plainAttrs_str PySem.F.slot_str_endswith PySem.F.type_str_endswith mt_str_endswith (@pv _ 0 _ _ (by rfl) (by first | exact Or.inl rfl | exact Or.inr ( Or.inl rfl ) | exact Or.inr ( Or.inr rfl )) (by decide) (by decide)) (@pa_cons _ _ _ _ _ pe_str pa_nil (by rfl)) (by rfl) (by rfl) (by rfl) (by rfl) (by rfl)) (by intro _; rfl)) (@pw_and1 _ _ _ _ (@pt_cmpR _ _ _ _ _ _ _ _ op_isN (@pe_cal _ _ _ _ _ _ _ _ _ _ _ C_last_joint hr (by omega) rfl (@pa_cons _ _ _ _ _ (@pv _ 0 _ _ (by rfl) (by first | exact Or.inl rfl | exact Or.inr ( Or.inl rfl ) | exact Or.inr ( Or.inr rfl )) (by decide) (by decide)) pa_nil (by rfl)) (by decide) (by rfl) (by rfl)) pe_non (nomark _)))))) (@pss_one _ _ _ (@ps_ret _ _ _ _ (@pe_slice _ _ _ _ _ _ _ _ _ _ sl_str (@pv _ 0 _ _ (by rfl) (by first | exact Or.inl rfl | exact Or.inr ( Or.inl rfl ) | exact Or.inr ( Or.inr rfl )) (by decide) (by decide)) (@po_some _ _ _ pe_int) (@po_some _ _ _ (@pe_un _ _ _ _ _ _ un_neg pe_int))))) pss_nil) (@pss_one _ _ _ (@ps_ret _ _ _ _ (@pv _ 0 _ _ (by rfl) (by first | exact Or.inl rfl | exact Or.inr ( Or.inl rfl ) | exact Or.inr ( Or.inr rfl )) (by decide) (by decide))))), ?_⟩
  refine ⟨_, rfl, rfl, _, _, rfl, rfl, ?_⟩
  rw [opn_eq, starts1]
  cases b with
  | true =>
    refine ⟨true, rfl, iteT ⟨_, rfl, rfl, _, _, rfl, rfl, ?_⟩⟩
    rw [cls_eq, ends1]
    have e1 : (br true wy.tx).getLast? = some 41 := List.getLast?_concat (l := 40 :: wy.tx)
    rw [decide_eq_true e1]
    refine ⟨true, rfl, iteT ⟨_, rfl, _, rfl, br_asc, fun H1 s1 => ?_⟩⟩
    have e2 : joint (br true wy.tx) = none := joint_br wy
    rw [e2]
    refine ⟨rfl, _, rfl, iteT ⟨_, rfl, 1, rfl, _, rfl, -1, rfl, _, rfl, ?_, ?_⟩⟩
    · show (cutS (mkS (40 :: wy.tx ++ [41])) (some 1) (some (-1))).length ≤ sizeLine
      rw [cutS_mid, mkS_len]; exact le_line (by omega)
    · show Q (.str (cutS (mkS (40 :: wy.tx ++ [41])) (some 1) (some (-1)))) H1
      rw [cutS_mid]; exact q H1 s1
  | false =>
    have q0 : ∀ H', Same H H' → _ := q
    cases h1 : decide ((br false wy.tx).head? = some 40) with
    | false => exact ⟨false, rfl, iteF (iteF ⟨_, rfl, q H (Same.refl _)⟩)⟩
    | true =>
      refine ⟨true, rfl, iteT ⟨_, rfl, rfl, _, _, rfl, rfl, ?_⟩⟩
      rw [cls_eq, ends1]
      cases h2 : decide ((br false wy.tx).getLast? = some 41) with
      | false => exact ⟨false, rfl, iteF (iteF ⟨_, rfl, q H (Same.refl _)⟩)⟩
      | true =>
        refine ⟨true, rfl, iteT ⟨_, rfl, _, rfl, br_asc, fun H1 s1 => ?_⟩⟩
        cases wy with
        | num i => exact absurd (of_decide_eq_true h1) (tx_head_num i)
        | node g l r =>
          have e2 : joint (br false (Wy.node g l r).tx) = some (br (leftB g l.os) l.tx).length := joint_node g l r
          rw [e2]
          exact ⟨rfl, _, rfl, iteF ⟨_, rfl, q H1 s1⟩⟩
theorem wy_non {H : Hp} {w : Wy} {v : V} (h : WyIn H w v) : decide (v = .non) = false := by
  refine decide_eq_false fun z => ?_
  cases w with
  | num i => rw [show v = .int i from h] at z; cases z
  | node g l r => obtain ⟨a, _, _, e, _⟩ := h; rw [e] at z; cases z
def spFind (n : Nat) : Sp := fun vs H Q _ => ∃ w : Wy, vs = [.str (mkS w.tx)] ∧ w.size ≤ 9 ∧ w.deep ≤ n ∧ Small w.nums ∧ ∀ v H', Same H H' → WyIn H' w v → Q v H'
abbrev s_find_way : Stmt := top 28
theorem sc_find_way : FnScope ["text", "number", "at", "left", "right"] ["text"] (defScope s_find_way) := ⟨rfl, rfl, rfl, by decide +kernel, rfl, by decide +kernel, by decide +kernel⟩
theorem ok_find_way (F : Fun K "find_way" "find_way" s_find_way f fd) (bF : Binds K fd ["text"] []) (mF : mg "find_way" = some (.ref f)) (C_read_number : Cal P w K mg base "read_number" 2 ["text"] spReadN) (C_last_joint : Cal P w K mg base "last_joint" 1 ["text"] spJoint) (C_without_brackets : Cal P w K mg base "without_brackets" 2 ["text"] spWob) :
    ∀ n, FnOk P w K mg base CX0 (n + 3) f fd ["text"] (spFind n) := by
  intro n
  induction n with
  | zero =>
    refine ⟨fun vs H Q E h => ?_, fun A outer s H args us vs Q E _ _ _ _ h => ?_⟩
    · obtain ⟨x, rfl, _⟩ := h
      rfl
    · obtain ⟨wy, _, _, hd, _⟩ := h
      cases wy <;> exact absurd hd (by simp [Wy.deep])
  | succ n ih =>
    have C_find_way : Cal P w K mg base "find_way" (n + 3) ["text"] (spFind n) := ⟨f, fd, ih, bF, F.kp, mF⟩
    refine F.ok sc_find_way (fun vs H Q E h => ?_) (fun cdv A outer s H vs Q E hr h => ?_)
    · obtain ⟨x, rfl, _⟩ := h
      rfl
    obtain ⟨wy, rfl, h9, hd, hs, q⟩ := h
    refine ⟨_, (@pss_cons _ _ _ _ _ (@ps_set _ _ (1) _ _ _ _ (sc_find_way).nd rfl (Or.inl rfl) (@pe_cal _ _ _ _ _ _ _ _ _ _ _ C_read_number hr (by omega) rfl (@pa_cons _ _ _ _ _ (@pv _ 0 _ _ (by rfl) (by first | exact Or.inl rfl | exact Or.inr ( Or.inl rfl ) | exact Or.inr ( Or.inr rfl )) (by decide) (by decide)) pa_nil (by rfl)) (by decide) (by rfl) (by rfl)) (by rfl) (by first | exact .inl rfl | exact .inr rfl | assumption)) (@pss_cons _ _ _ _ _ (@ps_if _ _ _ _ _ _ _ _ (@pt_cmpR _ _ _ _ _ _ _ _ op_notN (@pv _ 1 _ _ (by rfl) (by first | exact Or.inl rfl | exact Or.inr ( Or.inl rfl ) | exact Or.inr ( Or.inr rfl )) (by decide) (by decide)) pe_non (nomark _)) (@pss_one _ _ _ (@ps_ret _ _ _ _ (@pv _ 1 _ _ (by rfl) (by first | exact Or.inl rfl | exact Or.inr ( Or.inl rfl ) | exact Or.inr ( Or.inr rfl )) (by decide) (by decide)))) pss_nil) (@pss_cons _ _ _ _ _ (@ps_set _ _ (2) _ _ _ _ (sc_find_way).nd rfl (Or.inl rfl) (@pe_cal _ _ _ _ _ _ _ _ _ _ _ C_last_joint hr (by omega) rfl (@pa_cons _ _ _ _ _ (@pv _ 0 _ _ (by rfl) (by first | exact Or.inl rfl | exact Or.inr ( Or.inl rfl ) | exact Or.inr ( Or.inr rfl )) (by decide) (by decide)) pa_nil (by rfl)) (by decide) (by rfl) (by rfl)) (by rfl) (by first | exact .inl rfl | exact .inr rfl | assumption)) (@pss_cons _ _ _ _ _ (@ps_if _ _ _ _ _ _ _ _ (@pt_cmpR _ _ _ _ _ _ _ _ op_isN (@pv _ 2 _ _ (by rfl) (by first | exact Or.inl rfl | exact Or.inr ( Or.inl rfl ) | exact Or.inr ( Or.inr rfl )) (by decide) (by decide)) pe_non (nomark _)) (@pss_one _ _ _ (@ps_ret _ _ _ _ pe_non)) pss_nil) (@pss_cons _ _ _ _ _ (@ps_set _ _ (3) _ _ _ _ (sc_find_way).nd rfl (Or.inl rfl) (@pe_cal _ _ _ _ _ _ _ _ _ _ _ C_find_way hr (by omega) rfl (@pa_cons _ _ _ _ _ (@pe_cal _ _ _ _ _ _ _ _ _ _ _ C_without_brackets hr (by omega) rfl (@pa_cons _ _ _ _ _ (@pe_slice _ _ _ _ _ _ _ _ _ _ sl_str (@pv _ 0 _ _ (by rfl) (by first | exact Or.inl rfl | exact Or.inr ( Or.inl rfl ) | exact Or.inr ( Or.inr rfl )) (by decide) (by decide)) po_none (@po_some _ _ _ (@pv _ 2 _ _ (by rfl) (by first | exact Or.inl rfl | exact Or.inr ( Or.inl rfl ) | exact Or.inr ( Or.inr rfl )) (by decide) (by decide)))) pa_nil (by rfl)) (by decide) (by rfl) (by rfl)) pa_nil (by rfl)) (by decide) (by rfl) (by rfl)) (by rfl) (by first | exact .inl rfl | exact .inr rfl | assumption)) (@pss_cons _ _ _ _ _ (@ps_set _ _ (4) _ _ _ _ (sc_find_way).nd rfl (Or.inl rfl) (@pe_cal _ _ _ _ _ _ _ _ _ _ _ C_find_way hr (by omega) rfl (@pa_cons _ _ _ _ _ (@pe_cal _ _ _ _ _ _ _ _ _ _ _ C_without_brackets hr (by omega) rfl (@pa_cons _ _ _ _ _ (@pe_slice _ _ _ _ _ _ _ _ _ _ sl_str (@pv _ 0 _ _ (by rfl) (by first | exact Or.inl rfl | exact Or.inr ( Or.inl rfl ) | exact Or.inr ( Or.inr rfl )) (by decide) (by decide)) (@po_some _ _ _ (@pe_op _ _ _ _ _ _ _ _ op_add (@pv _ 2 _ _ (by rfl) (by first | exact Or.inl rfl | exact Or.inr ( Or.inl rfl ) | exact Or.inr ( Or.inr rfl )) (by decide) (by decide)) pe_int)) po_none) pa_nil (by rfl)) (by decide) (by rfl) (by rfl)) pa_nil (by rfl)) (by decide) (by rfl) (by rfl)) (by rfl) (by first | exact .inl rfl | exact .inr rfl | assumption)) (@pss_one _ _ _ (@ps_ret _ _ _ _ (@pe_ifExp _ _ _ _ _ _ _ _ (@PW.pt _ _ _ (@pw_or _ _ _ _ _ _ _ (@pt_cmpR _ _ _ _ _ _ _ _ op_isN (@pv _ 3 _ _ (by rfl) (by first | exact Or.inl rfl | exact Or.inr ( Or.inl rfl ) | exact Or.inr ( Or.inr rfl )) (by decide) (by decide)) pe_non (nomark _)) (@pw_or1 _ _ _ _ (@pt_cmpR _ _ _ _ _ _ _ _ op_isN (@pv _ 4 _ _ (by rfl) (by first | exact Or.inl rfl | exact Or.inr ( Or.inl rfl ) | exact Or.inr ( Or.inr rfl )) (by decide) (by decide)) pe_non (nomark _))))) pe_non (@pe_tup _ _ _ _ _ (@pa_cons _ _ _ _ _ (@pe_ix _ _ _ _ _ _ _ ix_str (@pv _ 0 _ _ (by rfl) (by first | exact Or.inl rfl | exact Or.inr ( Or.inl rfl ) | exact Or.inr ( Or.inr rfl )) (by decide) (by decide)) (@pv _ 2 _ _ (by rfl) (by first | exact Or.inl rfl | exact Or.inr ( Or.inl rfl ) | exact Or.inr ( Or.inr rfl )) (by decide) (by decide)) (fun _ _ => rfl)) (@pa_cons _ _ _ _ _ (@pv _ 3 _ _ (by rfl) (by first | exact Or.inl rfl | exact Or.inr ( Or.inl rfl ) | exact Or.inr ( Or.inr rfl )) (by decide) (by decide)) (@pa_cons _ _ _ _ _ (@pv _ 4 _ _ (by rfl) (by first | exact Or.inl rfl | exact Or.inr ( Or.inl rfl ) | exact Or.inr ( Or.inr rfl )) (by decide) (by decide)) pa_nil (by rfl)) (by rfl)) (by rfl)))))))))))), ?_⟩
    have tl := tx_len wy hs
    refine ⟨_, rfl, wy.tx, rfl, tx_asc wy, by omega, fun H1 s1 => ?_⟩
    cases wy with
    | num i =>
      have e : readN (Wy.num i).tx = some i := readN_wn i
      rw [e]
      exact ⟨_, rfl, rfl, _, rfl, iteT ⟨_, rfl, q _ H1 s1 rfl⟩⟩
    | node g l r =>
      rw [readN_node]
      refine ⟨_, rfl, rfl, _, rfl, iteF ⟨_, rfl, _, rfl, tx_asc _, fun H2 s2 => ?_⟩⟩
      rw [joint_node]
      have d : max l.deep r.deep + 1 ≤ n + 1 := hd
      have z : l.size + r.size ≤ 9 := h9
      have lp := l.size_pos; have rp := r.size_pos
      have tl1 := tx_len l (small_l hs)
      have tr1 := tx_len r (small_r hs)
      have etx : (Wy.node g l r).tx = br (leftB g l.os) l.tx ++ g.code :: br (rightB g r.os) r.tx := rfl
      have ell : (br (leftB g l.os) l.tx).length ≤ (Wy.node g l r).tx.length := by rw [etx, List.length_append]; omega
      refine ⟨_, rfl, rfl, _, rfl, iteF ?_⟩
      refine ⟨_, rfl, _, rfl, _, rfl, _, rfl, ?_, ?_⟩
      · rw [cutS_take _ _ ell, mkS_len, List.length_take]; exact le_line (by omega)
      rw [cutS_take _ _ ell]
      have e1 : (Wy.node g l r).tx.take (br (leftB g l.os) l.tx).length = br (leftB g l.os) l.tx := by rw [etx, List.take_left]
      rw [e1]
      refine ⟨_, l, rfl, by omega, fun H3 s3 => ⟨l, rfl, by omega, by omega, small_l hs, fun vl H4 s4 hl => ?_⟩⟩
      have ell2 : (br (leftB g l.os) l.tx).length + 1 ≤ (Wy.node g l r).tx.length := by rw [etx, List.length_append, List.length_cons]; omega
      refine ⟨_, rfl, _, rfl, _, _, rfl, rfl, _, rfl, _, rfl, ?_, ?_⟩
      · have e2 : (((br (leftB g l.os) l.tx).length : Nat) : Int) + 1 = (((br (leftB g l.os) l.tx).length + 1 : Nat) : Int) := by omega
        rw [e2, cutS_drop _ _ ell2, mkS_len, List.length_drop]; exact le_line (by omega)
      have e2 : (((br (leftB g l.os) l.tx).length : Nat) : Int) + 1 = (((br (leftB g l.os) l.tx).length + 1 : Nat) : Int) := by omega
      rw [e2, cutS_drop _ _ ell2]
      have e3 : (Wy.node g l r).tx.drop ((br (leftB g l.os) l.tx).length + 1) = br (rightB g r.os) r.tx := by rw [etx, ← List.drop_drop, List.drop_left]; rfl
      rw [e3]
      refine ⟨_, r, rfl, by omega, fun H5 s5 => ⟨r, rfl, by omega, by omega, small_r hs, fun vr H6 s6 hr' => ?_⟩⟩
      have hl6 := hl.mono (Tups.of (s5.trans s6))
      refine ⟨_, rfl, rfl, _, rfl, ?_⟩
      rw [wy_non hl]
      refine iteF ⟨_, rfl, rfl, _, rfl, ?_⟩
      rw [wy_non hr']
      refine iteF ⟨_, rfl, _, rfl, _, _, g.code, rfl, rfl, le_line (by rw [mkS_len]; omega), ?_, _, rfl, _, rfl, (by show 3 ≤ sizeLine; decide), fun t ht => ?_⟩
      · rw [mkS_list]
        refine atI_nat ?_
        rw [etx, List.getElem?_append_right (Nat.le_refl _)]; simp
      have s7 := Same.new ht (.tup [.str ⟨#[g.code]⟩, vl, vr])
      refine q _ _ ((((((s1.trans s2).trans s3).trans s4).trans s5).trans s6).trans s7) ⟨t, vl, vr, rfl, ?_, hl6.mono (Tups.of s7), hr'.mono (Tups.of s7)⟩
      rw [upd_same, sg_str_code]; rfl
def spNeedText : Sp := fun vs H Q _ => ∃ z, vs = [.str z] ∧ Q .non H
abbrev s_need_text : Stmt := top 22
theorem sc_need_text : FnScope ["thing"] ["thing"] (defScope s_need_text) := ⟨rfl, rfl, rfl, by decide +kernel, rfl, by decide +kernel, by decide +kernel⟩
theorem ok_need_text (F : Fun K "need_text" "need_text" s_need_text f fd) (B : Bu K mg) : FnOk P w K mg base CX0 1 f fd ["thing"] spNeedText := by
  refine F.ok sc_need_text (fun vs H Q E h => ?_) (fun cdv A outer s H vs Q E hr h => ?_)
  · obtain ⟨l, rfl, _⟩ := h
    rfl
  obtain ⟨z, rfl, q⟩ := h
  refine ⟨_, (@pss_one _ _ _ (@ps_if _ _ _ _ _ _ _ _ (@pt_not _ _ _ _ (@pt_val _ _ _ (@pe_callB _ _ _ _ _ _ _ _ _ (@call_isinst _ ("str")) rfl B.iisinstance PyProof.Rows.boot_isinstance (@pa_cons _ _ _ _ _ (@pv _ 0 _ _ (by rfl) (by first | exact Or.inl rfl | exact Or.inr ( Or.inl rfl ) | exact Or.inr ( Or.inr rfl )) (by decide) (by decide)) (@pa_cons _ _ _ _ _ (@pe_bltn _ _ (.ty "str") _ _ rfl B.istr PyProof.Rows.boot_str rfl (by decide) (by decide)) pa_nil (by rfl)) (by rfl)) (by decide) (by decide) (by rfl) (by rfl)) (by intro _; rfl))) (@pss_one _ _ _ ps_never) pss_nil)), ?_⟩
  exact ⟨_, rfl, _, _, true, rfl, .str z, rfl, true, rfl, iteF q⟩
def spWayText : Sp := fun vs H Q _ => ∃ w v, vs = [v] ∧ WyIn H w v ∧ w.size ≤ 9 ∧ Small w.nums ∧ ∀ H', Same H H' → Q (.str (mkS w.tx)) H'
abbrev s_way_text : Stmt := top 20
theorem sc_way_text : FnScope ["way"] ["way"] (defScope s_way_text) := ⟨rfl, rfl, rfl, by decide +kernel, rfl, by decide +kernel, by decide +kernel⟩
theorem ok_way_text (F : Fun K "way_text" "way_text" s_way_text f fd) (C_need_way : Cal P w K mg base "need_way" 3 ["thing"] spNeedWay) (C_write_way : Cal P w K mg base "write_way" 12 ["way"] (spWW 9)) : FnOk P w K mg base CX0 13 f fd ["way"] spWayText := by
  refine F.ok sc_way_text (fun vs H Q E h => ?_) (fun cdv A outer s H vs Q E hr h => ?_)
  · obtain ⟨l, v, rfl, _⟩ := h
    rfl
  obtain ⟨wy, v, rfl, hw, h9, hs, q⟩ := h
  refine ⟨_, (@pss_cons _ _ _ _ _ (@ps_expr _ _ _ _ (@pe_cal _ _ _ _ _ _ _ _ _ _ _ C_need_way hr (by omega) rfl (@pa_cons _ _ _ _ _ (@pv _ 0 _ _ (by rfl) (by first | exact Or.inl rfl | exact Or.inr ( Or.inl rfl ) | exact Or.inr ( Or.inr rfl )) (by decide) (by decide)) pa_nil (by rfl)) (by decide) (by rfl) (by rfl)) (by rfl)) (@pss_one _ _ _ (@ps_ret _ _ _ _ (@pe_cal _ _ _ _ _ _ _ _ _ _ _ C_write_way hr (by omega) rfl (@pa_cons _ _ _ _ _ (@pv _ 0 _ _ (by rfl) (by first | exact Or.inl rfl | exact Or.inr ( Or.inl rfl ) | exact Or.inr ( Or.inr rfl )) (by decide) (by decide)) pa_nil (by rfl)) (by decide) (by rfl) (by rfl))))), ?_⟩
  have dl := wy.deep_le
  exact ⟨_, rfl, wy, v, rfl, hw, h9, fun H1 s1 => ⟨_, rfl, wy, v, rfl, hw.mono (Tups.of s1), h9, by omega, hs, fun H2 s2 => q H2 (s1.trans s2)⟩⟩
def spReadWay : Sp := fun vs H Q _ => ∃ w : Wy, vs = [.str (mkS w.tx)] ∧ w.size ≤ 9 ∧ Small w.nums ∧ ∀ v H', Same H H' → WyIn H' w v → Q v H'
abbrev s_read_way : Stmt := top 21
theorem sc_read_way : FnScope ["text", "signs", "way"] ["text"] (defScope s_read_way) := ⟨rfl, rfl, rfl, by decide +kernel, rfl, by decide +kernel, by decide +kernel⟩
theorem ok_read_way {tk : Tok} {aS : Addr} (F : Fun K "read_way" "read_way" s_read_way f fd) (B : Bu K mg) (B' : Co K mg tk aS) (C_need_text : Cal P w K mg base "need_text" 1 ["thing"] spNeedText) (C_find_way : Cal P w K mg base "find_way" 12 ["text"] (spFind 9)) (C_write_way : Cal P w K mg base "write_way" 12 ["way"] (spWW 9)) : FnOk P w K mg base CX0 13 f fd ["text"] spReadWay := by
  refine F.ok sc_read_way (fun vs H Q E h => ?_) (fun cdv A outer s H vs Q E hr h => ?_)
  · obtain ⟨l, rfl, _⟩ := h
    rfl
  obtain ⟨wy, rfl, h9, hs, q⟩ := h
  refine ⟨_, (@pss_cons _ _ _ _ _ (@ps_expr _ _ _ _ (@pe_cal _ _ _ _ _ _ _ _ _ _ _ C_need_text hr (by omega) rfl (@pa_cons _ _ _ _ _ (@pv _ 0 _ _ (by rfl) (by first | exact Or.inl rfl | exact Or.inr ( Or.inl rfl ) | exact Or.inr ( Or.inr rfl )) (by decide) (by decide)) pa_nil (by rfl)) (by decide) (by rfl) (by rfl)) (by rfl)) (@pss_cons _ _ _ _ _ (@ps_set _ _ (1) _ _ _ _ (sc_read_way).nd rfl (Or.inl rfl) (@pe_callB _ _ _ _ _ _ _ _ _ (@call_sum _ rfl) rfl B.isum PyProof.Rows.boot_sum (@pa_cons _ _ _ _ _ (@pe_lc _ _ _ _ _ _ _ _ (["sign", "text"]) ([none, some 0]) _ _ _ _ rfl (@pi_tup _ _ _ _ (@pe_glob _ _ (.ref aS) _ _ rfl B'.gSIGNS rfl (by decide))) rfl ⟨rfl, trivial⟩ ⟨⟨rfl, Or.inl rfl, Or.inl rfl⟩, trivial⟩ (fun _ _ _ _ => ⟨(@pg_name _ _ (0) _ (show List.Nodup (["sign", "text"] : List Str) by decide +kernel) rfl (Or.inl rfl) (by first | exact .inl rfl | exact .inr rfl | assumption)), pifs_nil, (@pe_bmK _ _ _ _ _ _ _ _ _ _ _ _ _ rfl PySem.F.plainAttrs_str PySem.F.slot_str_count PySem.F.type_str_count mt_str_count (@pv _ 1 _ _ (by rfl) (by first | exact Or.inl rfl | exact Or.inr ( Or.inl rfl ) | exact Or.inr ( Or.inr rfl )) (by decide) (by decide)) (@pa_cons _ _ _ _ _ (@pv _ 0 _ _ (by rfl) (by first | exact Or.inl rfl | exact Or.inr ( Or.inl rfl ) | exact Or.inr ( Or.inr rfl )) (by decide) (by decide)) pa_nil (by rfl)) (by rfl) (by rfl) (by rfl) (by rfl) (by rfl))⟩) (by rfl) (by rfl) (by rfl) (by rfl) (by intro _; rfl)) pa_nil (by rfl)) (by decide) (by decide) (by rfl) (by rfl)) (by rfl) (by first | exact .inl rfl | exact .inr rfl | assumption)) (@pss_cons _ _ _ _ _ (@ps_set _ _ (2) _ _ _ _ (sc_read_way).nd rfl (Or.inl rfl) (@pe_ifExp _ _ _ _ _ _ _ _ (@pt_cmpR _ _ _ _ _ _ _ _ op_lt (@pv _ 1 _ _ (by rfl) (by first | exact Or.inl rfl | exact Or.inr ( Or.inl rfl ) | exact Or.inr ( Or.inr rfl )) (by decide) (by decide)) (@pe_glob _ _ (.int 9) _ _ rfl B'.gMOST_NUMBERS ⟨_, rfl⟩ (by decide)) (nomark _)) (@pe_cal _ _ _ _ _ _ _ _ _ _ _ C_find_way hr (by omega) rfl (@pa_cons _ _ _ _ _ (@pv _ 0 _ _ (by rfl) (by first | exact Or.inl rfl | exact Or.inr ( Or.inl rfl ) | exact Or.inr ( Or.inr rfl )) (by decide) (by decide)) pa_nil (by rfl)) (by decide) (by rfl) (by rfl)) pe_non) (by rfl) (by first | exact .inl rfl | exact .inr rfl | assumption)) (@pss_cons _ _ _ _ _ (@ps_if _ _ _ _ _ _ _ _ (@PW.pt _ _ _ (@pw_or _ _ _ _ _ _ _ (@pt_cmpR _ _ _ _ _ _ _ _ op_isN (@pv _ 2 _ _ (by rfl) (by first | exact Or.inl rfl | exact Or.inr ( Or.inl rfl ) | exact Or.inr ( Or.inr rfl )) (by decide) (by decide)) pe_non (nomark _)) (@pw_or1 _ _ _ _ (@pt_cmpR _ _ _ _ _ _ _ _ op_ne (@pe_cal _ _ _ _ _ _ _ _ _ _ _ C_write_way hr (by omega) rfl (@pa_cons _ _ _ _ _ (@pv _ 2 _ _ (by rfl) (by first | exact Or.inl rfl | exact Or.inr ( Or.inl rfl ) | exact Or.inr ( Or.inr rfl )) (by decide) (by decide)) pa_nil (by rfl)) (by decide) (by rfl) (by rfl)) (@pv _ 0 _ _ (by rfl) (by first | exact Or.inl rfl | exact Or.inr ( Or.inl rfl ) | exact Or.inr ( Or.inr rfl )) (by decide) (by decide)) (nomark _))))) (@pss_one _ _ _ ps_never) pss_nil) (@pss_one _ _ _ (@ps_ret _ _ _ _ (@pv _ 2 _ _ (by rfl) (by first | exact Or.inl rfl | exact Or.inr ( Or.inl rfl ) | exact Or.inr ( Or.inr rfl )) (by decide) (by decide)))))))), ?_⟩
  have dl := wy.deep_le
  have cs := cnt_signs wy
  refine ⟨_, rfl, _, rfl, ?_⟩
  refine ⟨aS, rfl, ⟨_, B'.sSIGNS H⟩, ?_⟩
  refine lc_tup (xs := [.str "+", .str "-", .str "*"]) (fun i ys H' => H' = H ∧ ys = (([(wy.tx.count 43 : Nat), (wy.tx.count 45 : Nat), (wy.tx.count 42 : Nat)] : List Int).take i).map V.int) ⟨rfl, rfl⟩ (fun i ys H' hi p => by obtain ⟨rfl, rfl⟩ := p; exact ⟨B'.sSIGNS _, small1000 (by simp; omega)⟩) (fun i x ys H' hx p nx => ?_) (fun ys H' p p5 n5 => ?_)
  · obtain ⟨rfl, rfl⟩ := p
    have hi : i = 0 ∨ i = 1 ∨ i = 2 := by
      have := (List.getElem?_eq_some_iff.mp hx).1
      simp at this; omega
    have e43 : Txt.count (mkS wy.tx) ("+" : Str) = (wy.tx.count 43 : Nat) := by rw [show ("+" : Str) = mkS [43] by decide +kernel]; exact count1 _ _
    have e45 : Txt.count (mkS wy.tx) ("-" : Str) = (wy.tx.count 45 : Nat) := by rw [show ("-" : Str) = mkS [45] by decide +kernel]; exact count1 _ _
    have e42 : Txt.count (mkS wy.tx) ("*" : Str) = (wy.tx.count 42 : Nat) := by rw [show ("*" : Str) = mkS [42] by decide +kernel]; exact count1 _ _
    rcases hi with rfl | rfl | rfl
    · simp at hx; subst hx
      refine ⟨_, rfl, rfl, _, rfl, _, _, rfl, rfl, nx ⟨rfl, ?_⟩⟩
      rw [e43]; rfl
    · simp at hx; subst hx
      refine ⟨_, rfl, rfl, _, rfl, _, _, rfl, rfl, nx ⟨rfl, ?_⟩⟩
      rw [e45]; rfl
    · simp at hx; subst hx
      refine ⟨_, rfl, rfl, _, rfl, _, _, rfl, rfl, nx ⟨rfl, ?_⟩⟩
      rw [e42]; rfl
  obtain ⟨rfl, rfl⟩ := p
  refine ⟨p5, _, rfl, SqL.of upd_same, ?_⟩
  have S := Same.new n5 (.lst (([(wy.tx.count 43 : Nat), (wy.tx.count 45 : Nat), (wy.tx.count 42 : Nat)] : List Int).map V.int))
  refine ⟨_, rfl, _, _, rfl, rfl, true, congrArg V.bl (decide_eq_true (by simp; omega)), iteT ⟨_, rfl, wy, rfl, h9, by omega, hs, fun v H2 s2 hv => ?_⟩⟩
  refine ⟨_, rfl, rfl, _, rfl, ?_⟩
  rw [wy_non hv]
  refine iteF ⟨_, rfl, wy, v, rfl, hv, h9, by omega, hs, fun H3 s3 => ⟨_, rfl, rfl, _, rfl, ?_⟩⟩
  rw [decide_eq_true rfl]
  exact iteF ⟨_, rfl, q v H3 ((S.trans s2).trans s3) (hv.mono (Tups.of s3))⟩
end
end Put
set_option Elab.async false
set_option linter.all false
set_option maxRecDepth 100000
set_option maxHeartbeats 2000000
namespace Put
open PySem L2
def wyDat : Wy → PyData
  | .num i => .int i
  | .node g l r => .tuple [.str g.str, wyDat l, wyDat r]
theorem WyIn.dat {H : Hp} : ∀ {w : Wy} {v : V}, WyIn H w v → Dat H (wyDat w) v
  | .num i, v, h => by
    simp only [wyDat, Dat]; exact h
  | .node g l r, v, h => by
    obtain ⟨a, vl, vr, rfl, ha, hl, hr⟩ := h
    simp only [wyDat, Dat, DatAll]
    exact ⟨a, _, rfl, ha, _, _, rfl, rfl, _, _, rfl, WyIn.dat hl, _, _, rfl, WyIn.dat hr, rfl⟩
theorem wy_depth : ∀ w : Wy, (wyDat w).depth ≤ w.deep
  | .num i => by simp [wyDat, PyData.depth]
  | .node g l r => by
    have a := wy_depth l; have b := wy_depth r
    simp only [wyDat, PyData.depth, PyData.depthAll]
    show max 0 (max (wyDat l).depth (max (wyDat r).depth 0)) + 1 ≤ max l.deep r.deep + 1
    omega
theorem wy_lay : ∀ w : Wy, (wyDat w).canLay0 = true
  | .num i => by simp [wyDat, PyData.canLay0]
  | .node g l r => by
    have e : (PyData.str g.str).canLay0 = true := by cases g <;> decide +kernel
    simp only [wyDat, PyData.canLay0, PyData.canLayAll0, wy_lay l, wy_lay r, Bool.and_true]
    simpa [PyData.canLay0] using e
theorem sg_inj (a b : Sg) : (a.str == b.str) = decide (a = b) := by cases a <;> cases b <;> decide +kernel
theorem wy_eqv : ∀ a b : Wy, PyData.eqv (wyDat a) (wyDat b) = decide (a = b)
  | .num i, .num j => by
    simp only [wyDat, PyData.eqv]
    by_cases c : i = j
    · subst c; simp
    · simp [c]
  | .num i, .node g l r => by simp [wyDat, PyData.eqv]
  | .node g l r, .num i => by simp [wyDat, PyData.eqv]
  | .node g l r, .node g' l' r' => by
    simp only [wyDat, PyData.eqv, PyData.eqvAll, wy_eqv l l', wy_eqv r r', sg_inj, Bool.and_true]
    by_cases c1 : g = g' <;> by_cases c2 : l = l' <;> by_cases c3 : r = r' <;> simp [c1, c2, c3]
theorem cut_take (ns : List Int) (c : Nat) (h : c ≤ ns.length) : cutV (ns.map V.int) none (some (c : Int)) = (ns.take c).map V.int := by
  have hl : (ns.map V.int).length = ns.length := List.length_map _
  have e0 : HT.sIx ns.length 0 none = 0 := by simp [HT.sIx]
  have e1 : HT.sIx ns.length ns.length (some (c : Int)) = c := by
    simp only [HT.sIx]
    split <;> omega
  unfold cutV
  rw [hl, e0, e1, List.drop_zero, List.map_take]
  rfl
theorem cut_drop (ns : List Int) (c : Nat) (h : c ≤ ns.length) : cutV (ns.map V.int) (some (c : Int)) none = (ns.drop c).map V.int := by
  have hl : (ns.map V.int).length = ns.length := List.length_map _
  have e0 : HT.sIx ns.length ns.length none = ns.length := by simp [HT.sIx]
  have e1 : HT.sIx ns.length 0 (some (c : Int)) = c := by
    simp only [HT.sIx]
    split <;> omega
  unfold cutV
  rw [hl, e0, e1, List.map_drop, List.take_of_length_le (by rw [List.length_drop, hl]; exact Nat.le_refl _)]
section
variable {P : Program} {w : World} {K : PySem.W.Frag} {mg : Str → Option Value} {base : Heap} {f : Addr} {fd : FuncData}
theorem mul01 (b : Bool) : MulOk ("~" : Str) (if b = true then 1 else 0) ∧ Txt.mul ("~" : Str) (if b = true then 1 else 0) = mkS (if b = true then [126] else []) := by
  cases b
  · exact ⟨⟨by decide, fun h => absurd (by decide) h, fun h => absurd (by decide) h⟩, by decide +kernel⟩
  · exact ⟨⟨by decide, fun _ h => absurd h (by decide), fun _ h => absurd h (by decide)⟩, by decide +kernel⟩
abbrev s__law_figures : Stmt := top 36
theorem sc__law_figures : FnScope ["number", "text", "left"] ["number"] (defScope s__law_figures) := ⟨rfl, rfl, rfl, by decide +kernel, rfl, by decide +kernel, by decide +kernel⟩
theorem ok_law_figures (F : Fun K "_law_figures" "_law_figures" s__law_figures f fd) (B : Bu K mg) : FnOk P w K mg base CX0 1 f fd ["number"] spWN := by
  refine F.ok sc__law_figures (fun vs H Q E h => ?_) (fun cdv A outer s H vs Q E hr h => ?_)
  · obtain ⟨x, rfl, _⟩ := h
    rfl
  obtain ⟨i, rfl, hi, q⟩ := h
  refine ⟨_, (@pss_cons _ _ _ _ _ (@ps_set _ _ (1) _ _ _ _ (sc__law_figures).nd rfl (Or.inl rfl) pe_str (by rfl) (by first | exact .inl rfl | exact .inr rfl | assumption)) (@pss_cons _ _ _ _ _ (@ps_set _ _ (2) _ _ _ _ (sc__law_figures).nd rfl (Or.inl rfl) (@pe_callB _ _ _ _ _ _ _ _ _ call_abs rfl B.iabs PyProof.Rows.boot_abs (@pa_cons _ _ _ _ _ (@pv _ 0 _ _ (by rfl) (by first | exact Or.inl rfl | exact Or.inr ( Or.inl rfl ) | exact Or.inr ( Or.inr rfl )) (by decide) (by decide)) pa_nil (by rfl)) (by decide) (by decide) (by rfl) (by rfl)) (by rfl) (by first | exact .inl rfl | exact .inr rfl | assumption)) (@pss_cons _ _ _ _ _ (@ps_while _ _ _ _ _ _ PassesOwn.never (@pt_cmpR _ _ _ _ _ _ _ _ op_gt (@pv _ 2 _ _ (by rfl) (by first | exact Or.inl rfl | exact Or.inr ( Or.inl rfl ) | exact Or.inr ( Or.inr rfl )) (by decide) (by decide)) pe_int (nomark _)) (@pss_cons _ _ _ _ _ (@ps_set _ _ (1) _ _ _ _ (sc__law_figures).nd rfl (Or.inl rfl) (@pe_op _ _ _ _ _ _ _ _ op_add_str (@pe_ix _ _ _ _ _ _ _ ix_str pe_str (@pe_op _ _ _ _ _ _ _ _ op_mod (@pv _ 2 _ _ (by rfl) (by first | exact Or.inl rfl | exact Or.inr ( Or.inl rfl ) | exact Or.inr ( Or.inr rfl )) (by decide) (by decide)) pe_int) (fun _ _ => rfl)) (@pv _ 1 _ _ (by rfl) (by first | exact Or.inl rfl | exact Or.inr ( Or.inl rfl ) | exact Or.inr ( Or.inr rfl )) (by decide) (by decide))) (by rfl) (by first | exact .inl rfl | exact .inr rfl | assumption)) (@pss_one _ _ _ (@ps_set _ _ (2) _ _ _ _ (sc__law_figures).nd rfl (Or.inl rfl) (@pe_op _ _ _ _ _ _ _ _ op_fdivB (@pv _ 2 _ _ (by rfl) (by first | exact Or.inl rfl | exact Or.inr ( Or.inl rfl ) | exact Or.inr ( Or.inr rfl )) (by decide) (by decide)) pe_int) (by rfl) (by first | exact .inl rfl | exact .inr rfl | assumption))))) (@pss_one _ _ _ (@ps_ret _ _ _ _ (@pe_op _ _ _ _ _ _ _ _ op_add_str (@pe_op _ _ _ _ _ _ _ _ op_add_str (@pe_op _ _ _ _ _ _ _ _ op_rep_str pe_str (@pe_callTy _ _ _ _ _ _ _ _ _ call_int1 rfl B.iint PyProof.Rows.boot_int (@pa_cons _ _ _ _ _ (@pe_cmpR _ _ _ _ _ _ _ _ op_lt (@pv _ 0 _ _ (by rfl) (by first | exact Or.inl rfl | exact Or.inr ( Or.inl rfl ) | exact Or.inr ( Or.inr rfl )) (by decide) (by decide)) pe_int (nomark _)) pa_nil (by rfl)) (by decide) (by decide) (by rfl) (by rfl))) (@pe_ix _ _ _ _ _ _ _ ix_str pe_str (@pv _ 2 _ _ (by rfl) (by first | exact Or.inl rfl | exact Or.inr ( Or.inl rfl ) | exact Or.inr ( Or.inr rfl )) (by decide) (by decide)) (fun _ _ => rfl))) (@pv _ 1 _ _ (by rfl) (by first | exact Or.inl rfl | exact Or.inr ( Or.inl rfl ) | exact Or.inr ( Or.inr rfl )) (by decide) (by decide)))))))), ?_⟩
  have hl : (dg i.natAbs).length ≤ 12 := dg_len 11 i.natAbs (by have := hi.1; have := hi.2; show _ < 1000000000000; omega)
  have ea : (if i < 0 then -i else i) = (i.natAbs : Int) := by split <;> omega
  refine ⟨_, rfl, i, rfl, ?_⟩
  rw [ea]
  refine ⟨fun m σ H' => ∃ (left : Nat) (tl : List Nat), σ = [some (.int i), some (.str (mkS tl)), some (.int left)] ∧ H' = H ∧ dg left ++ tl = dg i.natAbs ∧ m = left, ⟨_, i.natAbs, [], rfl, rfl, by simp, rfl⟩, ?_⟩
  rintro m σ H' ⟨left, tl, rfl, rfl, hd, hm⟩
  have hm := hm.symm
  subst hm
  have hlen : (dg left).length + tl.length ≤ 12 := by rw [← hd, List.length_append] at hl; exact hl
  refine ⟨_, rfl, _, _, rfl, rfl, _, rfl, ite2 (fun c => ?_) (fun c => ?_)⟩
  · have c : (9 : Int) < left := of_decide_eq_true c
    refine ⟨fun σ' H' => ∃ m', m' < left ∧ _, fun σ' H' h => h, ?_⟩
    have e2 : (left : Int) % 10 = ((left % 10 : Nat) : Int) := by omega
    have e1 : (left : Int) / 10 = ((left / 10 : Nat) : Int) := by omega
    refine ⟨_, rfl, _, _, rfl, rfl, (by show (0 : Int) < 10; decide), _, _, 48 + left % 10, rfl, rfl, le_line (by decide), ?_, _, rfl, _, _, rfl, rfl, le_line (by show 1 + (mkS tl).length ≤ 1000; rw [mkS_len]; omega), ?_⟩
    · rw [e2]; exact fig_at (left % 10) (by omega)
    refine ⟨_, rfl, _, _, rfl, rfl, ⟨by decide, by decide⟩, left / 10, by omega, left / 10, (48 + left % 10) :: tl, ?_, rfl, ?_, rfl⟩
    · show [some (V.int i), some (V.str (⟨#[48 + left % 10]⟩ ++ mkS tl)), some (V.int ((left : Int) / 10))] = _
      rw [e1, ch_mk, mkS_app]; rfl
    · rw [← hd, dg_big (by omega : ¬ left < 10)]; simp
  · have c : ¬ (9 : Int) < left := fun z => c (decide_eq_true z)
    have hs : dg left = [48 + left] := dg_small (by omega)
    obtain ⟨m1, m2⟩ := mul01 (decide (i < 0))
    refine ⟨_, rfl, _, _, rfl, rfl, .inr ⟨_, rfl, _, _, rfl, rfl, m1, _, rfl, _, _, 48 + left, rfl, rfl, le_line (by decide), fig_at left (by omega), _, _, rfl, rfl, ?_, _, rfl, _, _, rfl, rfl, ?_, ?_⟩⟩
    · rw [m2, mkS_len]; exact le_line (by show _ + 1 ≤ _; split <;> decide)
    · rw [m2, ch_mk, mkS_app, mkS_len, mkS_len]; exact le_line (by rw [List.length_append]; simp only [List.length_singleton]; split <;> simp <;> omega)
    · have e : Txt.mul ("~" : Str) (if decide (i < 0) = true then 1 else 0) ++ (⟨#[48 + left]⟩ : Str) ++ mkS tl = mkS (wn i) := by
        rw [m2, ch_mk, mkS_app, mkS_app]
        unfold wn
        rw [← hd, hs]
        congr 1
        by_cases z : i < 0
        · simp [z]
        · simp [z]
      rw [e]
      exact q H' (Same.refl _)
abbrev s__law_written : Stmt := top 37
theorem sc__law_written : FnScope ["way", "sign", "left", "right", "one", "other"] ["way"] (defScope s__law_written) := ⟨rfl, rfl, rfl, by decide +kernel, rfl, by decide +kernel, by decide +kernel⟩
theorem ok_law_written (F : Fun K "_law_written" "_law_written" s__law_written f fd) (bF : Binds K fd ["way"] []) (mF : mg "_law_written" = some (.ref f)) (B : Bu K mg) (C__law_figures : Cal P w K mg base "_law_figures" 1 ["number"] spWN) :
    ∀ n, FnOk P w K mg base CX0 (n + 2) f fd ["way"] (spWW n) := by
  intro n
  induction n with
  | zero =>
    refine ⟨fun vs H Q E h => ?_, fun A outer s H args us vs Q E _ _ _ _ h => ?_⟩
    · obtain ⟨x, v, rfl, _⟩ := h
      rfl
    · obtain ⟨wy, v, _, _, _, hd, _⟩ := h
      cases wy <;> exact absurd hd (by simp [Wy.deep])
  | succ n ih =>
    have C__law_written : Cal P w K mg base "_law_written" (n + 2) ["way"] (spWW n) := ⟨f, fd, ih, bF, F.kp, mF⟩
    refine F.ok sc__law_written (fun vs H Q E h => ?_) (fun cdv A outer s H vs Q E hr h => ?_)
    · obtain ⟨x, v, rfl, _⟩ := h
      rfl
    obtain ⟨wy, v, rfl, hw, h9, hd, hs, q⟩ := h
    refine ⟨_, (@pss_cons _ _ _ _ _ (@ps_if _ _ _ _ _ _ _ _ (@pt_not _ _ _ _ (@pt_val _ _ _ (@pe_callB _ _ _ _ _ _ _ _ _ (@call_isinst _ ("tuple")) rfl B.iisinstance PyProof.Rows.boot_isinstance (@pa_cons _ _ _ _ _ (@pv _ 0 _ _ (by rfl) (by first | exact Or.inl rfl | exact Or.inr ( Or.inl rfl ) | exact Or.inr ( Or.inr rfl )) (by decide) (by decide)) (@pa_cons _ _ _ _ _ (@pe_bltn _ _ (.ty "tuple") _ _ rfl B.ituple PyProof.Rows.boot_tuple rfl (by decide) (by decide)) pa_nil (by rfl)) (by rfl)) (by decide) (by decide) (by rfl) (by rfl)) (by intro _; rfl))) (@pss_one _ _ _ (@ps_ret _ _ _ _ (@pe_cal _ _ _ _ _ _ _ _ _ _ _ C__law_figures hr (by omega) rfl (@pa_cons _ _ _ _ _ (@pv _ 0 _ _ (by rfl) (by first | exact Or.inl rfl | exact Or.inr ( Or.inl rfl ) | exact Or.inr ( Or.inr rfl )) (by decide) (by decide)) pa_nil (by rfl)) (by decide) (by rfl) (by rfl)))) pss_nil) (@pss_cons _ _ _ _ _ (@ps_asg _ _ _ _ _ _ (@pv _ 0 _ _ (by rfl) (by first | exact Or.inl rfl | exact Or.inr ( Or.inl rfl ) | exact Or.inr ( Or.inr rfl )) (by decide) (by decide)) (@pg_tup _ _ _ _ _ _ rfl (@pgs_cons _ _ _ _ _ (@pg_name _ _ (1) _ (sc__law_written).nd rfl (Or.inl rfl) (by first | exact .inl rfl | exact .inr rfl | assumption)) (@pgs_cons _ _ _ _ _ (@pg_name _ _ (2) _ (sc__law_written).nd rfl (Or.inl rfl) (by first | exact .inl rfl | exact .inr rfl | assumption)) (@pgs_cons _ _ _ _ _ (@pg_name _ _ (3) _ (sc__law_written).nd rfl (Or.inl rfl) (by first | exact .inl rfl | exact .inr rfl | assumption)) pgs_nil (by rfl)) (by rfl)) (by rfl)) (by rfl) (by rfl)) (by rfl) (by rfl) (by rfl)) (@pss_cons _ _ _ _ _ (@ps_set _ _ (4) _ _ _ _ (sc__law_written).nd rfl (Or.inl rfl) (@pe_cal _ _ _ _ _ _ _ _ _ _ _ C__law_written hr (by omega) rfl (@pa_cons _ _ _ _ _ (@pv _ 2 _ _ (by rfl) (by first | exact Or.inl rfl | exact Or.inr ( Or.inl rfl ) | exact Or.inr ( Or.inr rfl )) (by decide) (by decide)) pa_nil (by rfl)) (by decide) (by rfl) (by rfl)) (by rfl) (by first | exact .inl rfl | exact .inr rfl | assumption)) (@pss_cons _ _ _ _ _ (@ps_set _ _ (5) _ _ _ _ (sc__law_written).nd rfl (Or.inl rfl) (@pe_cal _ _ _ _ _ _ _ _ _ _ _ C__law_written hr (by omega) rfl (@pa_cons _ _ _ _ _ (@pv _ 3 _ _ (by rfl) (by first | exact Or.inl rfl | exact Or.inr ( Or.inl rfl ) | exact Or.inr ( Or.inr rfl )) (by decide) (by decide)) pa_nil (by rfl)) (by decide) (by rfl) (by rfl)) (by rfl) (by first | exact .inl rfl | exact .inr rfl | assumption)) (@pss_cut _ _ _ _ _ (@ps_if _ _ _ _ _ _ _ _ (@PW.pt _ _ _ (@pw_and _ _ _ _ _ _ _ (@pt_val _ _ _ (@pe_callB _ _ _ _ _ _ _ _ _ (@call_isinst _ ("tuple")) rfl B.iisinstance PyProof.Rows.boot_isinstance (@pa_cons _ _ _ _ _ (@pv _ 2 _ _ (by rfl) (by first | exact Or.inl rfl | exact Or.inr ( Or.inl rfl ) | exact Or.inr ( Or.inr rfl )) (by decide) (by decide)) (@pa_cons _ _ _ _ _ (@pe_bltn _ _ (.ty "tuple") _ _ rfl B.ituple PyProof.Rows.boot_tuple rfl (by decide) (by decide)) pa_nil (by rfl)) (by rfl)) (by decide) (by decide) (by rfl) (by rfl)) (by intro _; rfl)) (@pw_and _ _ _ _ _ _ _ (@pt_cmpR _ _ _ _ _ _ _ _ op_ne (@pe_ix _ _ _ _ _ _ _ ix_tup (@pv _ 2 _ _ (by rfl) (by first | exact Or.inl rfl | exact Or.inr ( Or.inl rfl ) | exact Or.inr ( Or.inr rfl )) (by decide) (by decide)) pe_int (fun _ _ => rfl)) pe_str (nomark _)) (@pw_and1 _ _ _ _ (@pt_cmpR _ _ _ _ _ _ _ _ op_eq (@pv _ 1 _ _ (by rfl) (by first | exact Or.inl rfl | exact Or.inr ( Or.inl rfl ) | exact Or.inr ( Or.inr rfl )) (by decide) (by decide)) pe_str (nomark _)))))) (@pss_one _ _ _ (@ps_set _ _ (4) _ _ _ _ (sc__law_written).nd rfl (Or.inl rfl) (@pe_op _ _ _ _ _ _ _ _ op_add_str (@pe_op _ _ _ _ _ _ _ _ op_add_str pe_str (@pv _ 4 _ _ (by rfl) (by first | exact Or.inl rfl | exact Or.inr ( Or.inl rfl ) | exact Or.inr ( Or.inr rfl )) (by decide) (by decide))) pe_str) (by rfl) (by first | exact .inl rfl | exact .inr rfl | assumption))) pss_nil) (@pss_cut _ _ _ _ _ (@ps_if _ _ _ _ _ _ _ _ (@PW.pt _ _ _ (@pw_and _ _ _ _ _ _ _ (@pt_val _ _ _ (@pe_callB _ _ _ _ _ _ _ _ _ (@call_isinst _ ("tuple")) rfl B.iisinstance PyProof.Rows.boot_isinstance (@pa_cons _ _ _ _ _ (@pv _ 3 _ _ (by rfl) (by first | exact Or.inl rfl | exact Or.inr ( Or.inl rfl ) | exact Or.inr ( Or.inr rfl )) (by decide) (by decide)) (@pa_cons _ _ _ _ _ (@pe_bltn _ _ (.ty "tuple") _ _ rfl B.ituple PyProof.Rows.boot_tuple rfl (by decide) (by decide)) pa_nil (by rfl)) (by rfl)) (by decide) (by decide) (by rfl) (by rfl)) (by intro _; rfl)) (@pw_and1 _ _ _ _ (@PW.pt _ _ _ (@pw_or _ _ _ _ _ _ _ (@pt_cmpR _ _ _ _ _ _ _ _ op_ne (@pe_ix _ _ _ _ _ _ _ ix_tup (@pv _ 3 _ _ (by rfl) (by first | exact Or.inl rfl | exact Or.inr ( Or.inl rfl ) | exact Or.inr ( Or.inr rfl )) (by decide) (by decide)) pe_int (fun _ _ => rfl)) pe_str (nomark _)) (@pw_or1 _ _ _ _ (@pt_cmpR _ _ _ _ _ _ _ _ op_eq (@pv _ 1 _ _ (by rfl) (by first | exact Or.inl rfl | exact Or.inr ( Or.inl rfl ) | exact Or.inr ( Or.inr rfl )) (by decide) (by decide)) pe_str (nomark _)))))))) (@pss_one _ _ _ (@ps_set _ _ (5) _ _ _ _ (sc__law_written).nd rfl (Or.inl rfl) (@pe_op _ _ _ _ _ _ _ _ op_add_str (@pe_op _ _ _ _ _ _ _ _ op_add_str pe_str (@pv _ 5 _ _ (by rfl) (by first | exact Or.inl rfl | exact Or.inr ( Or.inl rfl ) | exact Or.inr ( Or.inr rfl )) (by decide) (by decide))) pe_str) (by rfl) (by first | exact .inl rfl | exact .inr rfl | assumption))) pss_nil) (@pss_one _ _ _ (@ps_ret _ _ _ _ (@pe_op _ _ _ _ _ _ _ _ op_add_str (@pe_op _ _ _ _ _ _ _ _ op_add_str (@pv _ 4 _ _ (by rfl) (by first | exact Or.inl rfl | exact Or.inr ( Or.inl rfl ) | exact Or.inr ( Or.inr rfl )) (by decide) (by decide)) (@pv _ 1 _ _ (by rfl) (by first | exact Or.inl rfl | exact Or.inr ( Or.inl rfl ) | exact Or.inr ( Or.inr rfl )) (by decide) (by decide))) (@pv _ 5 _ _ (by rfl) (by first | exact Or.inl rfl | exact Or.inr ( Or.inl rfl ) | exact Or.inr ( Or.inr rfl )) (by decide) (by decide))))))))))), ?_⟩
    cases wy with
    | num i =>
      cases hw
      exact ⟨_, rfl, _, _, false, rfl, .int i, rfl, false, rfl, iteT ⟨_, rfl, i, rfl, hs i (by simp [Wy.nums]), fun H1 s1 => q H1 s1⟩⟩
    | node g l r =>
      obtain ⟨a, vl, vr, rfl, ha, hl, hr'⟩ := hw
      have d : max l.deep r.deep + 1 ≤ n + 1 := hd
      have z : l.size + r.size ≤ 9 := h9
      have lp := l.size_pos; have rp := r.size_pos
      have tl := tx_len l (small_l hs)
      have tr := tx_len r (small_r hs)
      have tb := br_len (leftB g l.os) l.tx
      have tb2 := br_len (rightB g r.os) r.tx
      refine ⟨_, rfl, _, _, true, rfl, .tup ha, rfl, true, rfl, iteF ?_⟩
      refine ⟨_, rfl, a, _, rfl, SqT.of ha, rfl, _, _, rfl, _, _, rfl, _, _, rfl, rfl, ?_⟩
      refine ⟨_, rfl, l, vl, rfl, hl, by omega, by omega, small_l hs, fun H1 g1 => ?_⟩
      refine ⟨_, rfl, r, vr, rfl, hr'.mono (Tups.of g1), by omega, by omega, small_r hs, fun H2 g2 => ?_⟩
      have hl2 := hl.mono (Tups.of (g1.trans g2))
      have hr2 := hr'.mono (Tups.of (g1.trans g2))
      have q2 := q H2 (g1.trans g2)
      refine ⟨fun σ H' => H' = H2 ∧ σ = [some (.ref a), some (.str g.str), some vl, some vr, some (.str (mkS (br (leftB g l.os) l.tx))), some (.str (mkS r.tx))], ?_, ?_⟩
      · cases l with
        | num i =>
          cases hl2
          refine ⟨_, rfl, _, _, false, rfl, .int i, rfl, false, rfl, iteF (iteF ⟨rfl, ?_⟩)⟩
          have : leftB g (Wy.num i).os = false := by cases g <;> rfl
          rw [this]; rfl
        | node x l1 l2 =>
          obtain ⟨b, v1, v2, rfl, hb, _, _⟩ := hl2
          refine ⟨_, rfl, _, _, true, rfl, .tup hb, rfl, true, rfl, iteT ⟨_, rfl, b, _, _, _, rfl, rfl, SqT.of hb, rfl, rfl, _, rfl, ?_⟩⟩
          rw [is_times]
          cases hx : decide (x = .times) with
          | true =>
            have : x = .times := of_decide_eq_true hx
            subst this
            refine iteF (iteF ⟨rfl, ?_⟩)
            have : leftB g (Wy.node .times l1 l2).os = false := by cases g <;> rfl
            rw [this]; rfl
          | false =>
            have hx : x ≠ .times := of_decide_eq_false hx
            refine iteT ⟨_, rfl, rfl, _, rfl, ?_⟩
            rw [is_times]
            cases hg : decide (g = .times) with
            | false =>
              have hg : g ≠ .times := of_decide_eq_false hg
              refine iteF ⟨rfl, ?_⟩
              have : leftB g (Wy.node x l1 l2).os = false := by cases g <;> first | rfl | exact absurd rfl hg
              rw [this]; rfl
            | true =>
              have : g = .times := of_decide_eq_true hg
              subst this
              have : leftB .times (Wy.node x l1 l2).os = true := by cases x <;> first | rfl | exact absurd rfl hx
              rw [this]
              refine iteT ⟨_, rfl, _, _, rfl, rfl, le_line (by rw [opn_eq, mkS_len, mkS_len]; simp; omega), _, _, rfl, rfl, le_line (by rw [opn_eq, cls_eq, mkS_app, mkS_len, mkS_len]; simp; omega), rfl, ?_⟩
              rw [br_mk]; rfl
      rintro σ H' ⟨rfl, rfl⟩
      refine ⟨fun σ H'' => H'' = H' ∧ σ = [some (.ref a), some (.str g.str), some vl, some vr, some (.str (mkS (br (leftB g l.os) l.tx))), some (.str (mkS (br (rightB g r.os) r.tx)))], ?_, ?_⟩
      · cases r with
        | num i =>
          cases hr2
          refine ⟨_, rfl, _, _, false, rfl, .int i, rfl, false, rfl, iteF (iteF ⟨rfl, ?_⟩)⟩
          have : rightB g (Wy.num i).os = false := by cases g <;> rfl
          rw [this]; rfl
        | node x l1 l2 =>
          obtain ⟨b, v1, v2, rfl, hb, _, _⟩ := hr2
          refine ⟨_, rfl, _, _, true, rfl, .tup hb, rfl, true, rfl, iteT ⟨_, rfl, b, _, _, _, rfl, rfl, SqT.of hb, rfl, rfl, _, rfl, ?_⟩⟩
          rw [is_times]
          cases hx : decide (x = .times) with
          | false =>
            have hx : x ≠ .times := of_decide_eq_false hx
            have : rightB g (Wy.node x l1 l2).os = true := by cases x <;> cases g <;> first | rfl | exact absurd rfl hx
            rw [this]
            refine iteT (iteT ⟨_, rfl, _, _, rfl, rfl, le_line (by rw [opn_eq, mkS_len, mkS_len]; simp; omega), _, _, rfl, rfl, le_line (by rw [opn_eq, cls_eq, mkS_app, mkS_len, mkS_len]; simp; omega), rfl, ?_⟩)
            rw [br_mk]; rfl
          | true =>
            have : x = .times := of_decide_eq_true hx
            subst this
            refine iteF ⟨_, rfl, rfl, _, rfl, ?_⟩
            rw [is_times]
            cases hg : decide (g = .times) with
            | false =>
              have hg : g ≠ .times := of_decide_eq_false hg
              refine iteF ⟨rfl, ?_⟩
              have : rightB g (Wy.node .times l1 l2).os = false := by cases g <;> first | rfl | exact absurd rfl hg
              rw [this]; rfl
            | true =>
              have : g = .times := of_decide_eq_true hg
              subst this
              have : rightB .times (Wy.node .times l1 l2).os = true := rfl
              rw [this]
              refine iteT ⟨_, rfl, _, _, rfl, rfl, le_line (by rw [opn_eq, mkS_len, mkS_len]; simp; omega), _, _, rfl, rfl, le_line (by rw [opn_eq, cls_eq, mkS_app, mkS_len, mkS_len]; simp; omega), rfl, ?_⟩
              rw [br_mk]; rfl
      rintro σ H'' ⟨rfl, rfl⟩
      refine ⟨_, rfl, _, rfl, _, _, rfl, rfl, le_line (by rw [mkS_len, sg_len]; omega), _, rfl, _, _, rfl, rfl, le_line (by rw [str_len, mkS_len, sg_len, mkS_len]; omega), ?_⟩
      have e : mkS (br (leftB g l.os) l.tx) ++ g.str ++ mkS (br (rightB g r.os) r.tx) = mkS (Wy.node g l r).tx := by
        rw [sg_str_code, mkS_app, mkS_app]
        show mkS _ = mkS (br (leftB g l.os) l.tx ++ g.code :: br (rightB g r.os) r.tx)
        simp
      rw [e]
      exact q2
end
end Put
set_option Elab.async false
set_option linter.all false
set_option maxRecDepth 100000
set_option maxHeartbeats 2000000
namespace Put
open PySem L2
theorem at_sign {k : Int} (h0 : 0 ≤ k) (h1 : k < 3) : ∃ g : Sg, atI ("+-*" : Str).cps.toList k = some g.code := by
  have : k = 0 ∨ k = 1 ∨ k = 2 := by omega
  rcases this with rfl | rfl | rfl
  · exact ⟨.plus, rfl⟩
  · exact ⟨.minus, rfl⟩
  · exact ⟨.times, rfl⟩
section
variable {P : Program} {w : World} {K : PySem.W.Frag} {mg : Str → Option Value} {base : Heap} {f : Addr} {fd : FuncData}
def spAny (n : Nat) : Sp := fun vs H Q _ => ∃ w r ns M, vs = [.ref w, .ref r] ∧ H r = some (.lst (ns.map V.int)) ∧ r ≠ w ∧ 1 ≤ ns.length ∧ ns.length ≤ n ∧ n ≤ 20 ∧ Wel H w M ∧ M + 4 * ns.length - 4 < 999999000 ∧
  ∀ v wy H', WyIn H' wy v → wy.nums = ns → But w H H' → Wel H' w (M + 4 * ns.length - 4) → Q v H'
abbrev s__law_any_way : Stmt := top 38
theorem sc__law_any_way : FnScope ["well", "row", "cut", "sign"] ["well", "row"] (defScope s__law_any_way) := ⟨rfl, rfl, rfl, by decide +kernel, rfl, by decide +kernel, by decide +kernel⟩
theorem ok_any_way (F : Fun K "_law_any_way" "_law_any_way" s__law_any_way f fd) (bF : Binds K fd ["well", "row"] []) (mF : mg "_law_any_way" = some (.ref f)) (B : Bu K mg) (C__law_draw : Cal P w K mg base "_law_draw" 2 ["well", "many"] spDraw) :
    ∀ n, FnOk P w K mg base CX0 (n + 2) f fd ["well", "row"] (spAny n) := by
  intro n
  induction n with
  | zero =>
    refine ⟨fun vs H Q E h => ?_, fun A outer s H args us vs Q E _ _ _ _ h => ?_⟩
    · obtain ⟨x, r, ns, M, rfl, _⟩ := h
      rfl
    · obtain ⟨x, r, ns, M, _, _, _, h1, h2, _⟩ := h
      omega
  | succ n ih =>
    have C__law_any_way : Cal P w K mg base "_law_any_way" (n + 2) ["well", "row"] (spAny n) := ⟨f, fd, ih, bF, F.kp, mF⟩
    refine F.ok sc__law_any_way (fun vs H Q E h => ?_) (fun cdv A outer s H vs Q E hr h => ?_)
    · obtain ⟨x, r, ns, M, rfl, _⟩ := h
      rfl
    obtain ⟨wl, r, ns, M, rfl, er, nr, h1, h2, h20, hw, hM, q⟩ := h
    refine ⟨_, (@pss_cons _ _ _ _ _ (@ps_if _ _ _ _ _ _ _ _ (@pt_cmpR _ _ _ _ _ _ _ _ op_eq (@pe_callB _ _ _ _ _ _ _ _ _ call_len_seq rfl B.ilen PySem.boot_len (@pa_cons _ _ _ _ _ (@pv _ 1 _ _ (by rfl) (by first | exact Or.inl rfl | exact Or.inr ( Or.inl rfl ) | exact Or.inr ( Or.inr rfl )) (by decide) (by decide)) pa_nil (by rfl)) (by decide) (by decide) (by rfl) (by rfl)) pe_int (nomark _)) (@pss_one _ _ _ (@ps_ret _ _ _ _ (@pe_ix _ _ _ _ _ _ _ ix_list (@pv _ 1 _ _ (by rfl) (by first | exact Or.inl rfl | exact Or.inr ( Or.inl rfl ) | exact Or.inr ( Or.inr rfl )) (by decide) (by decide)) pe_int (fun _ _ => rfl)))) pss_nil) (@pss_cons _ _ _ _ _ (@ps_set _ _ (2) _ _ _ _ (sc__law_any_way).nd rfl (Or.inl rfl) (@pe_op _ _ _ _ _ _ _ _ op_add pe_int (@pe_cal _ _ _ _ _ _ _ _ _ _ _ C__law_draw hr (by omega) rfl (@pa_cons _ _ _ _ _ (@pv _ 0 _ _ (by rfl) (by first | exact Or.inl rfl | exact Or.inr ( Or.inl rfl ) | exact Or.inr ( Or.inr rfl )) (by decide) (by decide)) (@pa_cons _ _ _ _ _ (@pe_op _ _ _ _ _ _ _ _ op_sub (@pe_callB _ _ _ _ _ _ _ _ _ call_len_seq rfl B.ilen PySem.boot_len (@pa_cons _ _ _ _ _ (@pv _ 1 _ _ (by rfl) (by first | exact Or.inl rfl | exact Or.inr ( Or.inl rfl ) | exact Or.inr ( Or.inr rfl )) (by decide) (by decide)) pa_nil (by rfl)) (by decide) (by decide) (by rfl) (by rfl)) pe_int) pa_nil (by rfl)) (by rfl)) (by decide) (by rfl) (by rfl))) (by rfl) (by first | exact .inl rfl | exact .inr rfl | assumption)) (@pss_cons _ _ _ _ _ (@ps_set _ _ (3) _ _ _ _ (sc__law_any_way).nd rfl (Or.inl rfl) (@pe_ix _ _ _ _ _ _ _ ix_str pe_str (@pe_cal _ _ _ _ _ _ _ _ _ _ _ C__law_draw hr (by omega) rfl (@pa_cons _ _ _ _ _ (@pv _ 0 _ _ (by rfl) (by first | exact Or.inl rfl | exact Or.inr ( Or.inl rfl ) | exact Or.inr ( Or.inr rfl )) (by decide) (by decide)) (@pa_cons _ _ _ _ _ pe_int pa_nil (by rfl)) (by rfl)) (by decide) (by rfl) (by rfl)) (fun _ _ => rfl)) (by rfl) (by first | exact .inl rfl | exact .inr rfl | assumption)) (@pss_one _ _ _ (@ps_ret _ _ _ _ (@pe_tup _ _ _ _ _ (@pa_cons _ _ _ _ _ (@pv _ 3 _ _ (by rfl) (by first | exact Or.inl rfl | exact Or.inr ( Or.inl rfl ) | exact Or.inr ( Or.inr rfl )) (by decide) (by decide)) (@pa_cons _ _ _ _ _ (@pe_cal _ _ _ _ _ _ _ _ _ _ _ C__law_any_way hr (by omega) rfl (@pa_cons _ _ _ _ _ (@pv _ 0 _ _ (by rfl) (by first | exact Or.inl rfl | exact Or.inr ( Or.inl rfl ) | exact Or.inr ( Or.inr rfl )) (by decide) (by decide)) (@pa_cons _ _ _ _ _ (@pe_slice _ _ _ _ _ _ _ _ _ _ sl_list (@pv _ 1 _ _ (by rfl) (by first | exact Or.inl rfl | exact Or.inr ( Or.inl rfl ) | exact Or.inr ( Or.inr rfl )) (by decide) (by decide)) po_none (@po_some _ _ _ (@pv _ 2 _ _ (by rfl) (by first | exact Or.inl rfl | exact Or.inr ( Or.inl rfl ) | exact Or.inr ( Or.inr rfl )) (by decide) (by decide)))) pa_nil (by rfl)) (by rfl)) (by decide) (by rfl) (by rfl)) (@pa_cons _ _ _ _ _ (@pe_cal _ _ _ _ _ _ _ _ _ _ _ C__law_any_way hr (by omega) rfl (@pa_cons _ _ _ _ _ (@pv _ 0 _ _ (by rfl) (by first | exact Or.inl rfl | exact Or.inr ( Or.inl rfl ) | exact Or.inr ( Or.inr rfl )) (by decide) (by decide)) (@pa_cons _ _ _ _ _ (@pe_slice _ _ _ _ _ _ _ _ _ _ sl_list (@pv _ 1 _ _ (by rfl) (by first | exact Or.inl rfl | exact Or.inr ( Or.inl rfl ) | exact Or.inr ( Or.inr rfl )) (by decide) (by decide)) (@po_some _ _ _ (@pv _ 2 _ _ (by rfl) (by first | exact Or.inl rfl | exact Or.inr ( Or.inl rfl ) | exact Or.inr ( Or.inr rfl )) (by decide) (by decide))) po_none) pa_nil (by rfl)) (by rfl)) (by decide) (by rfl) (by rfl)) pa_nil (by rfl)) (by rfl)) (by rfl)))))))), ?_⟩
    have hl : (ns.map V.int).length = ns.length := List.length_map _
    refine ⟨_, rfl, r, _, rfl, .inl (SqL.of er), rfl, _, rfl, ite2 (fun c => ?_) (fun c => ?_)⟩
    · have c' : V.int (((ns.map V.int).length : Nat) : Int) = V.int 1 := of_decide_eq_true c
      have c2 : (((ns.map V.int).length : Nat) : Int) = 1 := by injection c'
      rw [hl] at c2
      match ns, c2, er, q with
      | [i], _, er, q =>
        exact ⟨_, rfl, r, _, _, _, rfl, rfl, SqL.of er, rfl, q _ (.num i) H rfl rfl But.refl (hw.more (by show M ≤ M + 4 * ((1 : Nat) : Int) - 4; omega))⟩
    have c2 : ns.length ≠ 1 := fun e => c (by rw [hl, e]; rfl)
    refine ⟨_, rfl, _, rfl, r, _, rfl, .inl (SqL.of er), _, _, rfl, rfl, wl, ((ns.map V.int).length : Int) - 1, M, rfl, by rw [hl]; omega, by rw [hl]; omega, hw, by omega, fun r1 H1 a1 b1 k1 w1 => ?_⟩
    rw [hl] at b1
    have er1 := k1 _ _ nr er
    refine ⟨_, _, rfl, rfl, _, rfl, wl, 3, _, rfl, by decide, by decide, w1, by omega, fun r3 H3 a3 b3 k3 w3 => ?_⟩
    obtain ⟨g, hg⟩ := at_sign a3 b3
    refine ⟨_, _, _, rfl, rfl, le_line (by decide), hg, ?_⟩
    obtain ⟨rn, rfl⟩ := Int.eq_ofNat_of_zero_le a1
    obtain ⟨cn, hcn⟩ : ∃ cn, cn = 1 + rn := ⟨_, rfl⟩
    have ecn : (1 : Int) + (rn : Int) = (cn : Int) := by omega
    have hcl : cn ≤ ns.length := by omega
    have kk : But wl H H3 := k1.trans k3
    have er3 := kk _ _ nr er
    refine ⟨_, rfl, _, rfl, _, rfl, _, rfl, 1 + (rn : Int), rfl, r, _, rfl, SqL.of er3, fun p2 n2 => ?_⟩
    rw [ecn, cut_take ns cn hcl]
    have lt : (ns.take cn).length = cn := by rw [List.length_take]; omega
    have ld : (ns.drop cn).length = ns.length - cn := by rw [List.length_drop]
    have w4 := w3.keep (Same.new n2 (.lst ((ns.take cn).map V.int))) (Int.le_refl _)
    refine ⟨wl, p2, ns.take cn, _, rfl, upd_same, w3.ne n2, by omega, by omega, by omega, w4, by omega, fun vl wyl H4 i4 e4 k4 w5 => ?_⟩
    have kk4 : But wl H H4 := (kk.trans (But.new n2 _)).trans k4
    have er4 := kk4 _ _ nr er
    refine ⟨_, rfl, _, rfl, _, rfl, 1 + (rn : Int), rfl, r, _, rfl, SqL.of er4, fun p3 n3 => ?_⟩
    rw [ecn, cut_drop ns cn hcl]
    have w6 := w5.keep (Same.new n3 (.lst ((ns.drop cn).map V.int))) (Int.le_refl _)
    refine ⟨wl, p3, ns.drop cn, _, rfl, upd_same, w5.ne n3, by omega, by omega, by omega, w6, by omega, fun vr wyr H5 i5 e5 k5 w7 => ?_⟩
    refine ⟨(by show 3 ≤ sizeLine; decide), fun p4 n4 => ?_⟩
    have T45 : Tups H4 H5 := (Tups.of (Same.new n3 _)).trans (w6.tups k5)
    have T5 : Tups H5 (upd H5 p4 (.tup [.str ⟨#[g.code]⟩, vl, vr])) := Tups.of (Same.new n4 _)
    refine q _ (.node g wyl wyr) _ ⟨p4, vl, vr, rfl, ?_, i4.mono (T45.trans T5), i5.mono T5⟩ ?_ (((kk4.trans (But.new n3 _)).trans k5).trans (But.new n4 _)) ?_
    · rw [upd_same, sg_str_code]; rfl
    · show wyl.nums ++ wyr.nums = ns
      rw [e4, e5, List.take_append_drop]
    · refine (w7.keep (Same.new n4 _) (Int.le_refl _)).more ?_
      omega
def SameV (H : Hp) (n : Nat) (x y : V) : Prop := (∃ z, x = .str z ∧ y = .str z ∧ 1 ≤ n) ∨ ∃ w : Wy, WyIn H w x ∧ WyIn H w y ∧ w.deep ≤ n
def spSame (n : Nat) : Sp := fun vs H Q _ => ∃ x y, vs = [x, y] ∧ SameV H n x y ∧ ∀ H', Same H H' → Q (.bl true) H'
abbrev s__law_same : Stmt := top 39
theorem sc__law_same : FnScope ["found", "due"] ["found", "due"] (defScope s__law_same) := ⟨rfl, rfl, rfl, by decide +kernel, rfl, by decide +kernel, by decide +kernel⟩
theorem ok_law_same (F : Fun K "_law_same" "_law_same" s__law_same f fd) (bF : Binds K fd ["found", "due"] []) (mF : mg "_law_same" = some (.ref f)) (B : Bu K mg) : ∀ n, FnOk P w K mg base CX0 (n + 1) f fd ["found", "due"] (spSame n) := by
  intro n
  induction n with
  | zero =>
    refine ⟨fun vs H Q E h => ?_, fun A outer s H args us vs Q E _ _ _ _ h => ?_⟩
    · obtain ⟨x, y, rfl, _⟩ := h
      rfl
    · obtain ⟨x, y, _, h, _⟩ := h
      rcases h with ⟨_, _, _, h⟩ | ⟨wy, _, _, hd⟩
      · omega
      · cases wy <;> exact absurd hd (by simp [Wy.deep])
  | succ n ih =>
    have C__law_same : Cal P w K mg base "_law_same" (n + 1) ["found", "due"] (spSame n) := ⟨f, fd, ih, bF, F.kp, mF⟩
    refine F.ok sc__law_same (fun vs H Q E h => ?_) (fun cdv A outer s H vs Q E hr h => ?_)
    · obtain ⟨x, y, rfl, _⟩ := h
      rfl
    obtain ⟨x, y, rfl, hx, q⟩ := h
    refine ⟨_, (@pss_cons _ _ _ _ _ (@ps_if _ _ _ _ _ _ _ _ (@pt_val _ _ _ (@pe_callB _ _ _ _ _ _ _ _ _ (@call_isinstT _ _ rfl) rfl B.iisinstance PyProof.Rows.boot_isinstance (@pa_cons _ _ _ _ _ (@pv _ 1 _ _ (by rfl) (by first | exact Or.inl rfl | exact Or.inr ( Or.inl rfl ) | exact Or.inr ( Or.inr rfl )) (by decide) (by decide)) (@pa_cons _ _ _ _ _ (@pe_tup _ _ _ _ _ (@pa_cons _ _ _ _ _ (@pe_bltn _ _ (.ty "tuple") _ _ rfl B.ituple PyProof.Rows.boot_tuple rfl (by decide) (by decide)) (@pa_cons _ _ _ _ _ (@pe_bltn _ _ (.ty "list") _ _ rfl B.ilist PyProof.Rows.boot_list rfl (by decide) (by decide)) pa_nil (by rfl)) (by rfl))) pa_nil (by rfl)) (by rfl)) (by decide) (by decide) (by rfl) (by rfl)) (by intro _; rfl)) (@pss_cons _ _ _ _ _ (@ps_if _ _ _ _ _ _ _ _ (@PW.pt _ _ _ (@pw_or _ _ _ _ _ _ _ (@pt_cmpR _ _ _ _ _ _ _ _ op_ne (@pe_callB _ _ _ _ _ _ _ _ _ (@call_isinst _ ("tuple")) rfl B.iisinstance PyProof.Rows.boot_isinstance (@pa_cons _ _ _ _ _ (@pv _ 0 _ _ (by rfl) (by first | exact Or.inl rfl | exact Or.inr ( Or.inl rfl ) | exact Or.inr ( Or.inr rfl )) (by decide) (by decide)) (@pa_cons _ _ _ _ _ (@pe_bltn _ _ (.ty "tuple") _ _ rfl B.ituple PyProof.Rows.boot_tuple rfl (by decide) (by decide)) pa_nil (by rfl)) (by rfl)) (by decide) (by decide) (by rfl) (by rfl)) (@pe_callB _ _ _ _ _ _ _ _ _ (@call_isinst _ ("tuple")) rfl B.iisinstance PyProof.Rows.boot_isinstance (@pa_cons _ _ _ _ _ (@pv _ 1 _ _ (by rfl) (by first | exact Or.inl rfl | exact Or.inr ( Or.inl rfl ) | exact Or.inr ( Or.inr rfl )) (by decide) (by decide)) (@pa_cons _ _ _ _ _ (@pe_bltn _ _ (.ty "tuple") _ _ rfl B.ituple PyProof.Rows.boot_tuple rfl (by decide) (by decide)) pa_nil (by rfl)) (by rfl)) (by decide) (by decide) (by rfl) (by rfl)) (nomark _)) (@pw_or1 _ _ _ _ (@pt_cmpR _ _ _ _ _ _ _ _ op_ne (@pe_callB _ _ _ _ _ _ _ _ _ (@call_isinst _ ("list")) rfl B.iisinstance PyProof.Rows.boot_isinstance (@pa_cons _ _ _ _ _ (@pv _ 0 _ _ (by rfl) (by first | exact Or.inl rfl | exact Or.inr ( Or.inl rfl ) | exact Or.inr ( Or.inr rfl )) (by decide) (by decide)) (@pa_cons _ _ _ _ _ (@pe_bltn _ _ (.ty "list") _ _ rfl B.ilist PyProof.Rows.boot_list rfl (by decide) (by decide)) pa_nil (by rfl)) (by rfl)) (by decide) (by decide) (by rfl) (by rfl)) (@pe_callB _ _ _ _ _ _ _ _ _ (@call_isinst _ ("list")) rfl B.iisinstance PyProof.Rows.boot_isinstance (@pa_cons _ _ _ _ _ (@pv _ 1 _ _ (by rfl) (by first | exact Or.inl rfl | exact Or.inr ( Or.inl rfl ) | exact Or.inr ( Or.inr rfl )) (by decide) (by decide)) (@pa_cons _ _ _ _ _ (@pe_bltn _ _ (.ty "list") _ _ rfl B.ilist PyProof.Rows.boot_list rfl (by decide) (by decide)) pa_nil (by rfl)) (by rfl)) (by decide) (by decide) (by rfl) (by rfl)) (nomark _))))) (@pss_one _ _ _ (@ps_ret _ _ _ _ pe_bl)) pss_nil) (@pss_cons _ _ _ _ _ (@ps_if _ _ _ _ _ _ _ _ (@pt_cmpR _ _ _ _ _ _ _ _ op_ne (@pe_callB _ _ _ _ _ _ _ _ _ call_len_seq rfl B.ilen PySem.boot_len (@pa_cons _ _ _ _ _ (@pv _ 0 _ _ (by rfl) (by first | exact Or.inl rfl | exact Or.inr ( Or.inl rfl ) | exact Or.inr ( Or.inr rfl )) (by decide) (by decide)) pa_nil (by rfl)) (by decide) (by decide) (by rfl) (by rfl)) (@pe_callB _ _ _ _ _ _ _ _ _ call_len_seq rfl B.ilen PySem.boot_len (@pa_cons _ _ _ _ _ (@pv _ 1 _ _ (by rfl) (by first | exact Or.inl rfl | exact Or.inr ( Or.inl rfl ) | exact Or.inr ( Or.inr rfl )) (by decide) (by decide)) pa_nil (by rfl)) (by decide) (by decide) (by rfl) (by rfl)) (nomark _)) (@pss_one _ _ _ (@ps_ret _ _ _ _ pe_bl)) pss_nil) (@pss_one _ _ _ (@ps_ret _ _ _ _ (@pe_cmpR _ _ _ _ _ _ _ _ (@op_eqL _ hr.units) (@pe_lc _ _ _ _ _ _ _ _ (["k", "found", "due"]) ([none, some 0, some 1]) _ _ _ _ rfl (@pi_range1 _ _ _ _ _ _ rfl B.irange (@pa_cons _ _ _ _ _ (@pe_callB _ _ _ _ _ _ _ _ _ call_len_seq rfl B.ilen PySem.boot_len (@pa_cons _ _ _ _ _ (@pv _ 1 _ _ (by rfl) (by first | exact Or.inl rfl | exact Or.inr ( Or.inl rfl ) | exact Or.inr ( Or.inr rfl )) (by decide) (by decide)) pa_nil (by rfl)) (by decide) (by decide) (by rfl) (by rfl)) pa_nil (by rfl)) (by rfl)) rfl ⟨rfl, ⟨rfl, trivial⟩⟩ ⟨⟨rfl, Or.inl rfl, Or.inl rfl⟩, ⟨⟨rfl, Or.inl rfl, Or.inl rfl⟩, trivial⟩⟩ (fun _ _ _ _ => ⟨(@pg_name _ _ (0) _ (show List.Nodup (["k", "found", "due"] : List Str) by decide +kernel) rfl (Or.inl rfl) (by first | exact .inl rfl | exact .inr rfl | assumption)), (@pifs_one _ _ _ (@pt_not _ _ _ _ (@pt_val _ _ _ (@pe_cal _ _ _ _ _ _ _ _ _ _ _ C__law_same hr (by omega) rfl (@pa_cons _ _ _ _ _ (@pe_ix _ _ _ _ _ _ _ (@ix_tupK _ _ rfl) (@pv _ 1 _ _ (by rfl) (by first | exact Or.inl rfl | exact Or.inr ( Or.inl rfl ) | exact Or.inr ( Or.inr rfl )) (by decide) (by decide)) (@pv _ 0 _ _ (by rfl) (by first | exact Or.inl rfl | exact Or.inr ( Or.inl rfl ) | exact Or.inr ( Or.inr rfl )) (by decide) (by decide)) (fun _ _ => rfl)) (@pa_cons _ _ _ _ _ (@pe_ix _ _ _ _ _ _ _ (@ix_tupK _ _ rfl) (@pv _ 2 _ _ (by rfl) (by first | exact Or.inl rfl | exact Or.inr ( Or.inl rfl ) | exact Or.inr ( Or.inr rfl )) (by decide) (by decide)) (@pv _ 0 _ _ (by rfl) (by first | exact Or.inl rfl | exact Or.inr ( Or.inl rfl ) | exact Or.inr ( Or.inr rfl )) (by decide) (by decide)) (fun _ _ => rfl)) pa_nil (by rfl)) (by rfl)) (by decide) (by rfl) (by rfl)) (by intro _; rfl)))), (@pv _ 0 _ _ (by rfl) (by first | exact Or.inl rfl | exact Or.inr ( Or.inl rfl ) | exact Or.inr ( Or.inr rfl )) (by decide) (by decide))⟩) (by rfl) (by rfl) (by rfl) (by rfl) (by intro _; rfl)) (@pe_lst _ _ _ _ pa_nil) (nomark _)))))) pss_nil) (@pss_cons _ _ _ _ _ (@ps_if _ _ _ _ _ _ _ _ (@PW.pt _ _ _ (@pw_or _ _ _ _ _ _ _ (@pt_cmpR _ _ _ _ _ _ _ _ op_isN (@pv _ 1 _ _ (by rfl) (by first | exact Or.inl rfl | exact Or.inr ( Or.inl rfl ) | exact Or.inr ( Or.inr rfl )) (by decide) (by decide)) pe_non (nomark _)) (@pw_or1 _ _ _ _ (@pt_val _ _ _ (@pe_callB _ _ _ _ _ _ _ _ _ (@call_isinst _ ("str")) rfl B.iisinstance PyProof.Rows.boot_isinstance (@pa_cons _ _ _ _ _ (@pv _ 1 _ _ (by rfl) (by first | exact Or.inl rfl | exact Or.inr ( Or.inl rfl ) | exact Or.inr ( Or.inr rfl )) (by decide) (by decide)) (@pa_cons _ _ _ _ _ (@pe_bltn _ _ (.ty "str") _ _ rfl B.istr PyProof.Rows.boot_str rfl (by decide) (by decide)) pa_nil (by rfl)) (by rfl)) (by decide) (by decide) (by rfl) (by rfl)) (by intro _; rfl))))) (@pss_one _ _ _ (@ps_ret _ _ _ _ (@pe_cmpR _ _ _ _ _ _ _ _ op_eq (@pv _ 0 _ _ (by rfl) (by first | exact Or.inl rfl | exact Or.inr ( Or.inl rfl ) | exact Or.inr ( Or.inr rfl )) (by decide) (by decide)) (@pv _ 1 _ _ (by rfl) (by first | exact Or.inl rfl | exact Or.inr ( Or.inl rfl ) | exact Or.inr ( Or.inr rfl )) (by decide) (by decide)) (nomark _)))) pss_nil) (@pss_one _ _ _ (@ps_ret _ _ _ _ (@pe_and _ _ _ _ _ _ _ (@pe_callB _ _ _ _ _ _ _ _ _ (@call_isinst _ ("int")) rfl B.iisinstance PyProof.Rows.boot_isinstance (@pa_cons _ _ _ _ _ (@pv _ 0 _ _ (by rfl) (by first | exact Or.inl rfl | exact Or.inr ( Or.inl rfl ) | exact Or.inr ( Or.inr rfl )) (by decide) (by decide)) (@pa_cons _ _ _ _ _ (@pe_bltn _ _ (.ty "int") _ _ rfl B.iint PyProof.Rows.boot_int rfl (by decide) (by decide)) pa_nil (by rfl)) (by rfl)) (by decide) (by decide) (by rfl) (by rfl)) (@pe_and _ _ _ _ _ _ _ (@pe_not _ _ _ _ (@pe_callB _ _ _ _ _ _ _ _ _ (@call_isinst _ ("bool")) rfl B.iisinstance PyProof.Rows.boot_isinstance (@pa_cons _ _ _ _ _ (@pv _ 0 _ _ (by rfl) (by first | exact Or.inl rfl | exact Or.inr ( Or.inl rfl ) | exact Or.inr ( Or.inr rfl )) (by decide) (by decide)) (@pa_cons _ _ _ _ _ (@pe_bltn _ _ (.ty "bool") _ _ rfl B.ibool PyProof.Rows.boot_bool rfl (by decide) (by decide)) pa_nil (by rfl)) (by rfl)) (by decide) (by decide) (by rfl) (by rfl))) (@pe_one _ _ _ _ _ (@pe_cmpR _ _ _ _ _ _ _ _ op_eq (@pv _ 0 _ _ (by rfl) (by first | exact Or.inl rfl | exact Or.inr ( Or.inl rfl ) | exact Or.inr ( Or.inr rfl )) (by decide) (by decide)) (@pv _ 1 _ _ (by rfl) (by first | exact Or.inl rfl | exact Or.inr ( Or.inl rfl ) | exact Or.inr ( Or.inr rfl )) (by decide) (by decide)) (nomark _))))))))), ?_⟩
    refine ⟨_, rfl, (by show 2 ≤ sizeLine; decide), fun tp htp => ?_⟩
    have s1 := Same.new htp (.tup [V.ty "tuple", V.ty "list"])
    have etp : upd H tp (.tup [V.ty "tuple", V.ty "list"]) tp = some (.tup (["tuple", "list"].map V.ty)) := upd_same
    rcases hx with ⟨z, rfl, rfl, _⟩ | ⟨wy, h1, h2, hd⟩
    · refine ⟨_, tp, _, ["tuple", "list"], false, rfl, .str z, etp, rfl, false, rfl, iteF ?_⟩
      refine ⟨_, rfl, rfl, false, rfl, iteF ⟨_, rfl, _, _, true, rfl, .str z, rfl, true, rfl, iteT ⟨_, rfl, _, rfl, rfl, ?_⟩⟩⟩
      rw [decide_eq_true rfl]
      exact q _ s1
    cases wy with
    | num i =>
      cases h1; cases h2
      refine ⟨_, tp, _, ["tuple", "list"], false, rfl, .int i, etp, rfl, false, rfl, iteF ?_⟩
      refine ⟨_, rfl, rfl, false, rfl, iteF ⟨_, rfl, _, _, false, rfl, .int i, rfl, false, rfl, iteF ?_⟩⟩
      refine ⟨_, rfl, _, _, true, rfl, .int i, rfl, true, rfl, iteT ⟨_, rfl, _, _, false, rfl, .int i, rfl, false, rfl, true, rfl, iteT ⟨_, rfl, _, rfl, rfl, ?_⟩⟩⟩
      rw [decide_eq_true rfl]
      exact q _ s1
    | node g l r =>
      obtain ⟨a, al, ar, rfl, ea, hal, har⟩ := h1
      obtain ⟨b, bl', br', rfl, eb, hbl, hbr⟩ := h2
      have d : max l.deep r.deep + 1 ≤ n + 1 := hd
      have ldp : 1 ≤ l.deep := by cases l <;> simp [Wy.deep]
      have ea1 := s1 _ _ ea
      have eb1 := s1 _ _ eb
      have hal1 := hal.mono (Tups.of s1)
      have har1 := har.mono (Tups.of s1)
      have hbl1 := hbl.mono (Tups.of s1)
      have hbr1 := hbr.mono (Tups.of s1)
      refine ⟨_, tp, _, ["tuple", "list"], true, rfl, .tup eb1, etp, rfl, true, rfl, iteT ?_⟩
      generalize upd H tp (.tup [V.ty "tuple", V.ty "list"]) = H1 at s1 ea1 eb1 hal1 har1 hbl1 hbr1 ⊢
      refine ⟨_, rfl, _, _, true, rfl, .tup ea1, rfl, _, rfl, _, _, true, rfl, .tup eb1, rfl, rfl, false, rfl, iteF ?_⟩
      refine ⟨_, rfl, _, _, false, rfl, .tup ea1, rfl, _, rfl, _, _, false, rfl, .tup eb1, rfl, rfl, false, rfl, iteF ?_⟩
      refine ⟨_, rfl, a, _, rfl, .inr (SqT.of ea1), _, rfl, b, _, rfl, .inr (SqT.of eb1), rfl, false, rfl, iteF ?_⟩
      refine ⟨_, rfl, b, _, rfl, .inr (SqT.of eb1), 3, rfl, by decide, by decide, ?_⟩
      refine lc_range (n := 3) (fun i ys H' => Same H1 H' ∧ ys = []) ⟨Same.refl _, rfl⟩ (fun i ys H' hi p => by rw [p.2]; exact small1000 (by decide)) (fun i ys H' hi p nx => ?_) (fun ys H' p p5 n5 => ?_)
      · obtain ⟨S, rfl⟩ := p
        have key : ∃ x y, [V.str g.str, al, ar][i]? = some x ∧ [V.str g.str, bl', br'][i]? = some y ∧ SameV H' n x y := by
          have : i = 0 ∨ i = 1 ∨ i = 2 := by omega
          rcases this with rfl | rfl | rfl
          · exact ⟨_, _, rfl, rfl, .inl ⟨_, rfl, rfl, by omega⟩⟩
          · exact ⟨_, _, rfl, rfl, .inr ⟨l, hal1.mono (Tups.of S), hbl1.mono (Tups.of S), by omega⟩⟩
          · exact ⟨_, _, rfl, rfl, .inr ⟨r, har1.mono (Tups.of S), hbr1.mono (Tups.of S), by omega⟩⟩
        obtain ⟨x, y, hx, hy, hsv⟩ := key
        have ei : (0 : Int) + (i : Int) = ((i : Nat) : Int) := by omega
        rw [ei]
        refine ⟨_, rfl, _, rfl, a, _, _, _, rfl, rfl, SqT.of (S _ _ ea1), atI_nat hx, _, rfl, _, rfl, b, _, _, _, rfl, rfl, SqT.of (S _ _ eb1), atI_nat hy, x, y, rfl, hsv, fun H2 s2 => ?_⟩
        exact ⟨true, rfl, iteF (nx ⟨S.trans s2, rfl⟩)⟩
      · obtain ⟨S, rfl⟩ := p
        have s6 := Same.new n5 (.lst [])
        refine ⟨Nat.zero_le _, fun p6 n6 => ⟨0, p5, p6, [], [], by decide, rfl, rfl, SqL.of ((Same.new n6 _) _ _ upd_same), SqL.of upd_same, .inr ⟨fun _ => true, rfl, (fun j x y h => by simp at h), ?_⟩⟩⟩
        exact q _ (((s1.trans S).trans s6).trans (Same.new n6 _))
end
end Put
set_option Elab.async false
set_option linter.all false
set_option maxRecDepth 100000
set_option maxHeartbeats 2000000
namespace Put
open PySem L2
theorem cut_some (ns : List Int) (lo hi : Option Int) : ∃ ms : List Int, cutV (ns.map V.int) lo hi = ms.map V.int ∧ ms.length ≤ ns.length := by
  refine ⟨(ns.drop (HT.sIx ns.length 0 lo)).take (HT.sIx ns.length ns.length hi - HT.sIx ns.length 0 lo), ?_, ?_⟩
  · unfold cutV
    rw [List.length_map, List.map_take, List.map_drop]
  · rw [List.length_take, List.length_drop]; omega
theorem But.same {H H1 H2 : Hp} {wl : Addr} (s : Same H H1) (n : H wl = none) (b : But wl H1 H2) : Same H H2 := fun c o h => b c o (ne_of_none h n) (s c o h)
theorem two_at {a b : Int} {k : Int} (h0 : 0 ≤ k) (h1 : k < 2) (P : Int → Prop) (pa : P a) (pb : P b) : ∃ z, atI [V.int a, .int b] k = some (.int z) ∧ P z := by
  have : k = 0 ∨ k = 1 := by omega
  rcases this with rfl | rfl
  · exact ⟨a, rfl, pa⟩
  · exact ⟨b, rfl, pb⟩
def wA : Wy := .node .minus (.num 1) (.node .minus (.num 2) (.num (-3)))
def wB : Wy := .node .times (.num (-1)) (.node .times (.num 2) (.num 3))
def wC : Wy := .node .plus (.node .minus (.num 1) (.num 2)) (.node .times (.num 3) (.num 4))
theorem dg1 (n : Nat) (h : n < 10) : dg n = [48 + n] := dg_small h
theorem tA : ("1-(2-~3)" : Str) = mkS wA.tx := by
  have e : wA.tx = [49, 45, 40, 50, 45, 126, 51, 41] := by
    simp [wA, Wy.tx, wn, br, leftB, rightB, Wy.os, Sg.code, dg1]
  rw [e]; decide +kernel
theorem tB : ("~1*(2*3)" : Str) = mkS wB.tx := by
  have e : wB.tx = [126, 49, 42, 40, 50, 42, 51, 41] := by
    simp [wB, Wy.tx, wn, br, leftB, rightB, Wy.os, Sg.code, dg1]
  rw [e]; decide +kernel
theorem tC' : ("1-2+3*4" : Str) = mkS wC.tx := by
  have e : wC.tx = [49, 45, 50, 43, 51, 42, 52] := by
    simp [wC, Wy.tx, wn, br, leftB, rightB, Wy.os, Sg.code, dg1]
  rw [e]; decide +kernel
section
variable {P : Program} {w : World} {K : PySem.W.Frag} {mg : Str → Option Value} {base : Heap} {f : Addr} {fd : FuncData}
def spLaw (K : PySem.W.Frag) : Sp := fun vs H Q _ => ∃ (a : Addr) (ns : List Int), vs = [.ref a] ∧ SqL K H a (ns.map V.int) ∧ ns.length ≤ 63 ∧ ∀ H', Q (.bl true) H'
abbrev s_law : Stmt := top 40
theorem sc_law : FnScope ["script", "cell", "well", "turn", "way", "due", "again", "text"] ["script"] (defScope s_law) := ⟨rfl, rfl, rfl, by decide +kernel, rfl, by decide +kernel, by decide +kernel⟩
theorem ok_law (F : Fun K "law" "law" s_law f fd) (B : Bu K mg) (C__law_well : Cal P w K mg base "_law_well" 1 ["cell"] spWell) (C__law_draw : Cal P w K mg base "_law_draw" 2 ["well", "many"] spDraw) (C__law_row : Cal P w K mg base "_law_row" 3 ["well", "many"] spRow)
    (C__law_any_way : Cal P w K mg base "_law_any_way" 11 ["well", "row"] (spAny 9)) (C__law_written : Cal P w K mg base "_law_written" 11 ["way"] (spWW 9)) (C_way_text : Cal P w K mg base "way_text" 13 ["way"] spWayText) (C_read_way : Cal P w K mg base "read_way" 13 ["text"] spReadWay)
    (C__law_same : Cal P w K mg base "_law_same" 10 ["found", "due"] (spSame 9)) (C_brackets_in : Cal P w K mg base "brackets_in" 24 ["way"] spBrk) : FnOk P w K mg base CX0 25 f fd ["script"] (spLaw K) := by
  refine F.ok sc_law (fun vs H Q E h => ?_) (fun cdv A outer s H vs Q E hr h => ?_)
  · obtain ⟨a, ns, rfl, _⟩ := h
    rfl
  obtain ⟨a, ns, rfl, hS, h63, q⟩ := h
  refine ⟨_, (@pss_cons _ _ _ _ _ (@ps_for _ _ _ _ _ _ _ _ PassesOwn.never rfl (@pi_list _ _ _ _ (@pe_op _ _ _ _ _ _ _ _ op_cat (@pe_lst _ _ _ _ (@pa_cons _ _ _ _ _ pe_int (@pa_cons _ _ _ _ _ pe_int pa_nil (by rfl)) (by rfl))) (@pe_slice _ _ _ _ _ _ _ _ _ _ sl_list (@pv _ 0 _ _ (by rfl) (by first | exact Or.inl rfl | exact Or.inr ( Or.inl rfl ) | exact Or.inr ( Or.inr rfl )) (by decide) (by decide)) po_none (@po_some _ _ _ pe_int)))) (@pg_name _ _ (1) _ (sc_law).nd rfl (Or.inl rfl) (by first | exact .inl rfl | exact .inr rfl | assumption)) (@pss_cons _ _ _ _ _ (@ps_set _ _ (2) _ _ _ _ (sc_law).nd rfl (Or.inl rfl) (@pe_cal _ _ _ _ _ _ _ _ _ _ _ C__law_well hr (by omega) rfl (@pa_cons _ _ _ _ _ (@pv _ 1 _ _ (by rfl) (by first | exact Or.inl rfl | exact Or.inr ( Or.inl rfl ) | exact Or.inr ( Or.inr rfl )) (by decide) (by decide)) pa_nil (by rfl)) (by decide) (by rfl) (by rfl)) (by rfl) (by first | exact .inl rfl | exact .inr rfl | assumption)) (@pss_one _ _ _ (@ps_for _ _ _ _ _ _ _ _ PassesOwn.never rfl (@pi_range1 _ _ _ _ _ _ rfl B.irange (@pa_cons _ _ _ _ _ pe_int pa_nil (by rfl)) (by rfl)) (@pg_name _ _ (3) _ (sc_law).nd rfl (Or.inl rfl) (by first | exact .inl rfl | exact .inr rfl | assumption)) (@pss_cons _ _ _ _ _ (@ps_set _ _ (4) _ _ _ _ (sc_law).nd rfl (Or.inl rfl) (@pe_cal _ _ _ _ _ _ _ _ _ _ _ C__law_any_way hr (by omega) rfl (@pa_cons _ _ _ _ _ (@pv _ 2 _ _ (by rfl) (by first | exact Or.inl rfl | exact Or.inr ( Or.inl rfl ) | exact Or.inr ( Or.inr rfl )) (by decide) (by decide)) (@pa_cons _ _ _ _ _ (@pe_cal _ _ _ _ _ _ _ _ _ _ _ C__law_row hr (by omega) rfl (@pa_cons _ _ _ _ _ (@pv _ 2 _ _ (by rfl) (by first | exact Or.inl rfl | exact Or.inr ( Or.inl rfl ) | exact Or.inr ( Or.inr rfl )) (by decide) (by decide)) (@pa_cons _ _ _ _ _ (@pe_ix _ _ _ _ _ _ _ ix_list (@pe_lst _ _ _ _ (@pa_cons _ _ _ _ _ (@pe_op _ _ _ _ _ _ _ _ op_add pe_int (@pe_cal _ _ _ _ _ _ _ _ _ _ _ C__law_draw hr (by omega) rfl (@pa_cons _ _ _ _ _ (@pv _ 2 _ _ (by rfl) (by first | exact Or.inl rfl | exact Or.inr ( Or.inl rfl ) | exact Or.inr ( Or.inr rfl )) (by decide) (by decide)) (@pa_cons _ _ _ _ _ pe_int pa_nil (by rfl)) (by rfl)) (by decide) (by rfl) (by rfl))) (@pa_cons _ _ _ _ _ pe_int pa_nil (by rfl)) (by rfl))) (@pe_cal _ _ _ _ _ _ _ _ _ _ _ C__law_draw hr (by omega) rfl (@pa_cons _ _ _ _ _ (@pv _ 2 _ _ (by rfl) (by first | exact Or.inl rfl | exact Or.inr ( Or.inl rfl ) | exact Or.inr ( Or.inr rfl )) (by decide) (by decide)) (@pa_cons _ _ _ _ _ pe_int pa_nil (by rfl)) (by rfl)) (by decide) (by rfl) (by rfl)) (fun _ _ => rfl)) pa_nil (by rfl)) (by rfl)) (by decide) (by rfl) (by rfl)) pa_nil (by rfl)) (by rfl)) (by decide) (by rfl) (by rfl)) (by rfl) (by first | exact .inl rfl | exact .inr rfl | assumption)) (@pss_cons _ _ _ _ _ (@ps_set _ _ (5) _ _ _ _ (sc_law).nd rfl (Or.inl rfl) (@pe_cal _ _ _ _ _ _ _ _ _ _ _ C__law_written hr (by omega) rfl (@pa_cons _ _ _ _ _ (@pv _ 4 _ _ (by rfl) (by first | exact Or.inl rfl | exact Or.inr ( Or.inl rfl ) | exact Or.inr ( Or.inr rfl )) (by decide) (by decide)) pa_nil (by rfl)) (by decide) (by rfl) (by rfl)) (by rfl) (by first | exact .inl rfl | exact .inr rfl | assumption)) (@pss_cons _ _ _ _ _ (@ps_for _ _ _ _ _ _ _ _ PassesOwn.never rfl (@pi_range1 _ _ _ _ _ _ rfl B.irange (@pa_cons _ _ _ _ _ pe_int pa_nil (by rfl)) (by rfl)) (@pg_name _ _ (6) _ (sc_law).nd rfl (Or.inl rfl) (by first | exact .inl rfl | exact .inr rfl | assumption)) (@pss_cons _ _ _ _ _ (@ps_set _ _ (7) _ _ _ _ (sc_law).nd rfl (Or.inl rfl) (@pe_cal _ _ _ _ _ _ _ _ _ _ _ C_way_text hr (by omega) rfl (@pa_cons _ _ _ _ _ (@pv _ 4 _ _ (by rfl) (by first | exact Or.inl rfl | exact Or.inr ( Or.inl rfl ) | exact Or.inr ( Or.inr rfl )) (by decide) (by decide)) pa_nil (by rfl)) (by decide) (by rfl) (by rfl)) (by rfl) (by first | exact .inl rfl | exact .inr rfl | assumption)) (@pss_one _ _ _ (@ps_if _ _ _ _ _ _ _ _ (@PW.pt _ _ _ (@pw_or _ _ _ _ _ _ _ (@pt_not _ _ _ _ (@pt_val _ _ _ (@pe_callB _ _ _ _ _ _ _ _ _ (@call_isinst _ ("str")) rfl B.iisinstance PyProof.Rows.boot_isinstance (@pa_cons _ _ _ _ _ (@pv _ 7 _ _ (by rfl) (by first | exact Or.inl rfl | exact Or.inr ( Or.inl rfl ) | exact Or.inr ( Or.inr rfl )) (by decide) (by decide)) (@pa_cons _ _ _ _ _ (@pe_bltn _ _ (.ty "str") _ _ rfl B.istr PyProof.Rows.boot_str rfl (by decide) (by decide)) pa_nil (by rfl)) (by rfl)) (by decide) (by decide) (by rfl) (by rfl)) (by intro _; rfl))) (@pw_or _ _ _ _ _ _ _ (@pt_cmpR _ _ _ _ _ _ _ _ op_ne (@pv _ 7 _ _ (by rfl) (by first | exact Or.inl rfl | exact Or.inr ( Or.inl rfl ) | exact Or.inr ( Or.inr rfl )) (by decide) (by decide)) (@pv _ 5 _ _ (by rfl) (by first | exact Or.inl rfl | exact Or.inr ( Or.inl rfl ) | exact Or.inr ( Or.inr rfl )) (by decide) (by decide)) (nomark _)) (@pw_or1 _ _ _ _ (@pt_not _ _ _ _ (@pt_val _ _ _ (@pe_cal _ _ _ _ _ _ _ _ _ _ _ C__law_same hr (by omega) rfl (@pa_cons _ _ _ _ _ (@pe_cal _ _ _ _ _ _ _ _ _ _ _ C_read_way hr (by omega) rfl (@pa_cons _ _ _ _ _ (@pv _ 5 _ _ (by rfl) (by first | exact Or.inl rfl | exact Or.inr ( Or.inl rfl ) | exact Or.inr ( Or.inr rfl )) (by decide) (by decide)) pa_nil (by rfl)) (by decide) (by rfl) (by rfl)) (@pa_cons _ _ _ _ _ (@pv _ 4 _ _ (by rfl) (by first | exact Or.inl rfl | exact Or.inr ( Or.inl rfl ) | exact Or.inr ( Or.inr rfl )) (by decide) (by decide)) pa_nil (by rfl)) (by rfl)) (by decide) (by rfl) (by rfl)) (by intro _; rfl))))))) (@pss_one _ _ _ (@ps_ret _ _ _ _ pe_bl)) pss_nil))) (by intro _; rfl)) (@pss_one _ _ _ (@ps_if _ _ _ _ _ _ _ _ (@pt_cmpR _ _ _ _ _ _ _ _ op_ne (@pe_cal _ _ _ _ _ _ _ _ _ _ _ C_brackets_in hr (by omega) rfl (@pa_cons _ _ _ _ _ (@pv _ 4 _ _ (by rfl) (by first | exact Or.inl rfl | exact Or.inr ( Or.inl rfl ) | exact Or.inr ( Or.inr rfl )) (by decide) (by decide)) pa_nil (by rfl)) (by decide) (by rfl) (by rfl)) (@pe_bm _ _ _ _ _ _ _ _ _ _ _ _ PySem.F.plainAttrs_str PySem.F.slot_str_count PySem.F.type_str_count mt_str_count (@pv _ 5 _ _ (by rfl) (by first | exact Or.inl rfl | exact Or.inr ( Or.inl rfl ) | exact Or.inr ( Or.inr rfl )) (by decide) (by decide)) (@pa_cons _ _ _ _ _ pe_str pa_nil (by rfl)) (by rfl) (by rfl) (by rfl) (by rfl) (by rfl)) (nomark _)) (@pss_one _ _ _ (@ps_ret _ _ _ _ pe_bl)) pss_nil))))) (by intro _; rfl)))) (by intro _; rfl)) (@pss_cons _ _ _ _ _ (@ps_if _ _ _ _ _ _ _ _ (@PW.pt _ _ _ (@pw_or _ _ _ _ _ _ _ (@pt_cmpR _ _ _ _ _ _ _ _ op_ne (@pe_cal _ _ _ _ _ _ _ _ _ _ _ C_way_text hr (by omega) rfl (@pa_cons _ _ _ _ _ (@pe_tup _ _ _ _ _ (@pa_cons _ _ _ _ _ pe_str (@pa_cons _ _ _ _ _ pe_int (@pa_cons _ _ _ _ _ (@pe_tup _ _ _ _ _ (@pa_cons _ _ _ _ _ pe_str (@pa_cons _ _ _ _ _ pe_int (@pa_cons _ _ _ _ _ (@pe_un _ _ _ _ _ _ un_neg pe_int) pa_nil (by rfl)) (by rfl)) (by rfl))) pa_nil (by rfl)) (by rfl)) (by rfl))) pa_nil (by rfl)) (by decide) (by rfl) (by rfl)) pe_str (nomark _)) (@pw_or1 _ _ _ _ (@pt_cmpR _ _ _ _ _ _ _ _ (@op_neD _ hr.units) (@pe_cal _ _ _ _ _ _ _ _ _ _ _ C_read_way hr (by omega) rfl (@pa_cons _ _ _ _ _ pe_str pa_nil (by rfl)) (by decide) (by rfl) (by rfl)) (@pe_tup _ _ _ _ _ (@pa_cons _ _ _ _ _ pe_str (@pa_cons _ _ _ _ _ (@pe_un _ _ _ _ _ _ un_neg pe_int) (@pa_cons _ _ _ _ _ (@pe_tup _ _ _ _ _ (@pa_cons _ _ _ _ _ pe_str (@pa_cons _ _ _ _ _ pe_int (@pa_cons _ _ _ _ _ pe_int pa_nil (by rfl)) (by rfl)) (by rfl))) pa_nil (by rfl)) (by rfl)) (by rfl))) (nomark _))))) (@pss_one _ _ _ (@ps_ret _ _ _ _ pe_bl)) pss_nil) (@pss_one _ _ _ (@ps_ret _ _ _ _ (@pe_cmpR _ _ _ _ _ _ _ _ (@op_eqD _ hr.units) (@pe_cal _ _ _ _ _ _ _ _ _ _ _ C_read_way hr (by omega) rfl (@pa_cons _ _ _ _ _ pe_str pa_nil (by rfl)) (by decide) (by rfl) (by rfl)) (@pe_tup _ _ _ _ _ (@pa_cons _ _ _ _ _ pe_str (@pa_cons _ _ _ _ _ (@pe_tup _ _ _ _ _ (@pa_cons _ _ _ _ _ pe_str (@pa_cons _ _ _ _ _ pe_int (@pa_cons _ _ _ _ _ pe_int pa_nil (by rfl)) (by rfl)) (by rfl))) (@pa_cons _ _ _ _ _ (@pe_tup _ _ _ _ _ (@pa_cons _ _ _ _ _ pe_str (@pa_cons _ _ _ _ _ pe_int (@pa_cons _ _ _ _ _ pe_int pa_nil (by rfl)) (by rfl)) (by rfl))) pa_nil (by rfl)) (by rfl)) (by rfl))) (nomark _)))))), ?_⟩
  refine ⟨(by show 2 ≤ sizeLine; decide), fun p1 n1 => ?_⟩
  have g1 := Same.new n1 (.lst [.int 0, .int 5])
  refine ⟨_, rfl, 10, rfl, a, _, rfl, g1.seq hS, fun p2 n2 => ?_⟩
  obtain ⟨ms, em, hm⟩ := cut_some ns none (some 10)
  rw [em]
  have g2 := Same.new n2 (.lst (ms.map V.int))
  refine ⟨p1, p2, _, _, rfl, rfl, g2 _ _ upd_same, upd_same, le_line (by rw [List.length_map]; show 2 + ms.length ≤ 1000; omega), fun p3 n3 => ?_⟩
  have e3 : upd (upd (upd H p1 (.lst [.int 0, .int 5])) p2 (.lst (ms.map V.int))) p3 (.lst ([.int 0, .int 5] ++ ms.map V.int)) p3 = _ := upd_same
  have el : [V.int 0, V.int 5] ++ ms.map V.int = (0 :: 5 :: ms).map V.int := rfl
  rw [el] at e3 ⊢
  revert e3
  generalize upd (upd (upd H p1 (.lst [.int 0, .int 5])) p2 (.lst (ms.map V.int))) p3 (.lst ((0 :: 5 :: ms).map V.int)) = H3
  intro e3
  refine ⟨p3, rfl, ⟨_, SqL.of e3⟩, for_list (xs := (0 :: 5 :: ms).map V.int) (fun i σ H' => ∃ cell well turn way due again text, σ = [some (.ref a), cell, well, turn, way, due, again, text] ∧ Same H3 H') ⟨_, _, _, _, _, _, _, rfl, Same.refl _⟩ ?_ ?_ ?_⟩
  · rintro i σ H' _ ⟨_, _, _, _, _, _, _, rfl, S⟩
    exact SqL.of (S _ _ e3)
  · rintro i x σ H' hx ⟨cell, well, turn, way, due, again, text, rfl, S⟩
    rw [List.getElem?_map] at hx
    obtain ⟨c, _, rfl⟩ := Option.map_eq_some_iff.mp hx
    refine ⟨_, rfl, c, rfl, fun wl H4 g4 nw ew => ?_⟩
    have nwl : H3 wl = none := S.free nw
    refine ⟨2, rfl, by decide, by decide, for_range (n := 2) (fun j σ H' => ∃ turn way due again text, σ = [some (.ref a), some (.int c), some (.ref wl), turn, way, due, again, text] ∧ Same H3 H' ∧ Wel H' wl (1000 * j)) ⟨_, _, _, _, _, rfl, S.trans g4, ew⟩ ?_ ?_⟩
    · rintro j σ H5 hj ⟨turn, way, due, again, text, rfl, S5, w5⟩
      refine ⟨_, rfl, _, rfl, _, rfl, wl, 9, _, rfl, by decide, by decide, w5, by omega, fun r1 H6 a1 b1 k6 w6 => ⟨_, _, rfl, rfl, (by show 2 ≤ sizeLine; decide), fun p7 n7 => ?_⟩⟩
      have n7w := w6.ne n7
      have w7 := w6.keep (Same.new n7 (.lst [.int (1 + r1), .int 9])) (Int.le_refl _)
      refine ⟨_, rfl, wl, 2, _, rfl, by decide, by decide, w7, by omega, fun r2 H8 a2 b2 k8 w8 => ?_⟩
      obtain ⟨m, hm1, hm2, hm3⟩ := two_at (a := 1 + r1) (b := 9) a2 b2 (fun z => 1 ≤ z ∧ z ≤ 9) (by omega) (by omega)
      refine ⟨p7, _, _, _, rfl, rfl, SqL.of (k8 _ _ n7w upd_same), hm1, wl, m, _, rfl, by omega, by omega, w8, by omega, fun pr rs H9 k9 w9 nr er hlen hsm => ?_⟩
      have nrw : pr ≠ wl := w8.ne nr
      refine ⟨wl, pr, rs, _, rfl, er, nrw, by omega, by omega, by omega, w9, by omega, fun v wy H10 iw en k10 w10 => ?_⟩
      have sz : wy.size ≤ 9 := by rw [← wy.nums_len, en]; omega
      have dl := wy.deep_le
      have sm : Small wy.nums := by rw [en]; exact hsm
      have S10 := But.same S5 nwl ((((k6.trans (But.new n7 _)).trans k8).trans k9).trans k10)
      refine ⟨_, rfl, wy, v, rfl, iw, sz, by omega, sm, fun H11 s11 => ?_⟩
      have iw11 := iw.mono (Tups.of s11)
      have w11 := w10.keep s11 (Int.le_refl _)
      refine ⟨2, rfl, by decide, by decide, for_range (n := 2) (fun k σ H' => ∃ again text, σ = [some (.ref a), some (.int c), some (.ref wl), some (.int (0 + j)), some v, some (.str (mkS wy.tx)), again, text] ∧ Same H11 H') ⟨_, _, rfl, Same.refl _⟩ ?_ ?_⟩
      · rintro k σ H12 hk ⟨again, text, rfl, S12⟩
        have iw12 := iw11.mono (Tups.of S12)
        refine ⟨_, rfl, wy, v, rfl, iw12, sz, sm, fun H13 s13 => ?_⟩
        refine ⟨_, rfl, _, _, true, rfl, .str _, rfl, true, rfl, iteF ⟨_, rfl, _, rfl, rfl, _, rfl, ?_⟩⟩
        rw [decide_eq_true rfl]
        refine iteF ⟨_, rfl, wy, rfl, sz, sm, fun v2 H14 s14 iv => ?_⟩
        have iw14 := iw12.mono (Tups.of (s13.trans s14))
        refine ⟨_, rfl, v2, v, rfl, .inr ⟨wy, iv, iw14, by omega⟩, fun H15 s15 => ⟨true, rfl, iteF ?_⟩⟩
        exact ⟨_, _, rfl, ((S12.trans s13).trans s14).trans s15⟩
      · rintro σ H12 ⟨again, text, rfl, S12⟩
        have iw12 := iw11.mono (Tups.of S12)
        refine ⟨_, rfl, wy, v, rfl, iw12, sz, fun H13 s13 => ?_⟩
        refine ⟨_, rfl, rfl, _, _, rfl, rfl, ?_⟩
        rw [opn_eq, count1, cnt_opn]
        refine ⟨rfl, _, rfl, ?_⟩
        rw [decide_eq_true rfl]
        exact iteF ⟨_, _, _, _, _, rfl, ((S10.trans s11).trans S12).trans s13, ((w11.keep S12 (Int.le_refl _)).keep s13 (Int.le_refl _)).more (by omega)⟩
    · rintro σ H5 ⟨turn, way, due, again, text, rfl, S5, w5⟩
      exact ⟨_, _, _, _, _, _, _, rfl, S5⟩
  · rintro σ H4 ⟨cell, well, turn, way, due, again, text, rfl, S4⟩
    have t3 : (3 : Nat) ≤ sizeLine := by decide
    refine ⟨_, rfl, t3, fun t1 m1 => ⟨t3, fun t2 m2 => ?_⟩⟩
    have k2 := Same.new m2 (.tup [.str "-", .int 1, .ref t1])
    refine ⟨wA, _, rfl, ⟨t2, _, _, rfl, upd_same, rfl, ⟨t1, _, _, rfl, k2 _ _ upd_same, rfl, rfl⟩⟩, by decide, by unfold Small; decide, fun H5 s5 => ⟨rfl, _, rfl, ?_⟩⟩
    rw [tA, decide_eq_true rfl]
    refine iteF ?_
    rw [tB]
    refine ⟨wB, rfl, by decide, by unfold Small; decide, fun v6 H6 s6 i6 => ⟨_, rfl, t3, fun t7 m7 => ⟨t3, fun t8 m8 => ?_⟩⟩⟩
    have k7 := Same.new m7 (.tup [.str "*", .int 2, .int 3])
    have k8 := Same.new m8 (.tup [.str "*", .int (-1), .ref t7])
    have i8 := i6.mono (Tups.of (k7.trans k8))
    have j8 : WyIn (upd (upd H6 t7 (.tup [.str "*", .int 2, .int 3])) t8 (.tup [.str "*", .int (-1), .ref t7])) wB (.ref t8) := ⟨t8, _, _, rfl, upd_same, rfl, ⟨t7, _, _, rfl, k8 _ _ upd_same, rfl, rfl⟩⟩
    refine ⟨_, _, i8.dat, j8.dat, wy_lay _, wy_lay _, by have := wy_depth wB; have e : wB.deep = 3 := rfl; omega, _, rfl, ?_⟩
    rw [wy_eqv, decide_eq_true rfl]
    refine iteF ?_
    rw [tC']
    refine ⟨wC, rfl, by decide, by unfold Small; decide, fun v9 H9 s9 i9 => ⟨t3, fun u1 o1 => ⟨t3, fun u2 o2 => ⟨t3, fun u3 o3 => ?_⟩⟩⟩⟩
    have l1 := Same.new o1 (.tup [.str "-", .int 1, .int 2])
    have l2 := Same.new o2 (.tup [.str "*", .int 3, .int 4])
    have l3 := Same.new o3 (.tup [.str "+", .ref u1, .ref u2])
    have i10 := i9.mono (Tups.of ((l1.trans l2).trans l3))
    have j10 : WyIn (upd (upd (upd H9 u1 (.tup [.str "-", .int 1, .int 2])) u2 (.tup [.str "*", .int 3, .int 4])) u3 (.tup [.str "+", .ref u1, .ref u2])) wC (.ref u3) := ⟨u3, _, _, rfl, upd_same, ⟨u1, _, _, rfl, l3 _ _ (l2 _ _ upd_same), rfl, rfl⟩, ⟨u2, _, _, rfl, l3 _ _ upd_same, rfl, rfl⟩⟩
    refine ⟨_, _, i10.dat, j10.dat, wy_lay _, wy_lay _, by have := wy_depth wC; have e : wC.deep = 3 := rfl; omega, ?_⟩
    rw [wy_eqv, decide_eq_true rfl]
    exact q _
end
end Put
set_option Elab.async false
set_option linter.all false
set_option maxRecDepth 100000
set_option maxHeartbeats 4000000
namespace Put
open PySem L2
theorem all_mk {l : PySem.W.OpenLaw} {w : World} {K : PySem.W.Frag} {h : Heap} {mg : Str → Option Value} {fa : Addr} (X : K.In h) (G : h.Ns mainGlobals mg) (hfa : mg "law" = some (.ref fa))
    {tM tS1 tS2 tS3 : Tok} {cS : Addr} {odS : Option Addr} {nS : Nat} {slS : Array (Option Value)}
    {tFg tBl : Tok}
{od0 an0 : Option Addr} {sl0 : Array (Option Value)} {oc0 kV0 dc0 pm0 cd0 ct0 : Value} {f0 : Addr}
{od1 an1 : Option Addr} {sl1 : Array (Option Value)} {oc1 kV1 dc1 pm1 cd1 ct1 : Value} {f1 : Addr}
{od2 an2 : Option Addr} {sl2 : Array (Option Value)} {oc2 kV2 dc2 pm2 cd2 ct2 : Value} {f2 : Addr}
{od3 an3 : Option Addr} {sl3 : Array (Option Value)} {oc3 kV3 dc3 pm3 cd3 ct3 : Value} {f3 : Addr}
{od4 an4 : Option Addr} {sl4 : Array (Option Value)} {oc4 kV4 dc4 pm4 cd4 ct4 : Value} {f4 : Addr}
{od5 an5 : Option Addr} {sl5 : Array (Option Value)} {oc5 kV5 dc5 pm5 cd5 ct5 : Value} {f5 : Addr}
{od6 an6 : Option Addr} {sl6 : Array (Option Value)} {oc6 kV6 dc6 pm6 cd6 ct6 : Value} {f6 : Addr}
{od7 an7 : Option Addr} {sl7 : Array (Option Value)} {oc7 kV7 dc7 pm7 cd7 ct7 : Value} {f7 : Addr}
{od8 an8 : Option Addr} {sl8 : Array (Option Value)} {oc8 kV8 dc8 pm8 cd8 ct8 : Value} {f8 : Addr}
{od9 an9 : Option Addr} {sl9 : Array (Option Value)} {oc9 kV9 dc9 pm9 cd9 ct9 : Value} {f9 : Addr}
{od10 an10 : Option Addr} {sl10 : Array (Option Value)} {oc10 kV10 dc10 pm10 cd10 ct10 : Value} {f10 : Addr}
{od11 an11 : Option Addr} {sl11 : Array (Option Value)} {oc11 kV11 dc11 pm11 cd11 ct11 : Value} {f11 : Addr}
{od12 an12 : Option Addr} {sl12 : Array (Option Value)} {oc12 kV12 dc12 pm12 cd12 ct12 : Value} {f12 : Addr}
{od13 an13 : Option Addr} {sl13 : Array (Option Value)} {oc13 kV13 dc13 pm13 cd13 ct13 : Value} {f13 : Addr}
{od14 an14 : Option Addr} {sl14 : Array (Option Value)} {oc14 kV14 dc14 pm14 cd14 ct14 : Value} {f14 : Addr}
{od15 an15 : Option Addr} {sl15 : Array (Option Value)} {oc15 kV15 dc15 pm15 cd15 ct15 : Value} {f15 : Addr}
{od16 an16 : Option Addr} {sl16 : Array (Option Value)} {oc16 kV16 dc16 pm16 cd16 ct16 : Value} {f16 : Addr}
{od17 an17 : Option Addr} {sl17 : Array (Option Value)} {oc17 kV17 dc17 pm17 cd17 ct17 : Value} {f17 : Addr}
{od18 an18 : Option Addr} {sl18 : Array (Option Value)} {oc18 kV18 dc18 pm18 cd18 ct18 : Value} {f18 : Addr}
{od19 an19 : Option Addr} {sl19 : Array (Option Value)} {oc19 kV19 dc19 pm19 cd19 ct19 : Value} {f19 : Addr}
{od20 an20 : Option Addr} {sl20 : Array (Option Value)} {oc20 kV20 dc20 pm20 cd20 ct20 : Value} {f20 : Addr}
{od21 an21 : Option Addr} {sl21 : Array (Option Value)} {oc21 kV21 dc21 pm21 cd21 ct21 : Value} {f21 : Addr}
{od22 an22 : Option Addr} {sl22 : Array (Option Value)} {oc22 kV22 dc22 pm22 cd22 ct22 : Value} {f22 : Addr}
{od23 an23 : Option Addr} {sl23 : Array (Option Value)} {oc23 kV23 dc23 pm23 cd23 ct23 : Value} {f23 : Addr}
{od24 an24 : Option Addr} {sl24 : Array (Option Value)} {oc24 kV24 dc24 pm24 cd24 ct24 : Value} {f24 : Addr}
{od25 an25 : Option Addr} {sl25 : Array (Option Value)} {oc25 kV25 dc25 pm25 cd25 ct25 : Value} {f25 : Addr}
{od26 an26 : Option Addr} {sl26 : Array (Option Value)} {oc26 kV26 dc26 pm26 cd26 ct26 : Value} {f26 : Addr}
{od27 an27 : Option Addr} {sl27 : Array (Option Value)} {oc27 kV27 dc27 pm27 cd27 ct27 : Value} {f27 : Addr}
{od28 an28 : Option Addr} {sl28 : Array (Option Value)} {oc28 kV28 dc28 pm28 cd28 ct28 : Value} {f28 : Addr}
    (a0 : PySem.W.nsIn K mainGlobals "is_whole" = some (some (.ref f0))) (l0 : K.lookup f0 = some ⟨oc0, od0, .func (PySem.W.fnOf "is_whole" "is_whole" (defArgs s_is_whole) (defBody s_is_whole) (defScope s_is_whole) .none kV0 dc0 pm0 an0 cd0 ct0), sl0⟩) (c0 : PySem.W.codeIn K cd0 "is_whole" = true) (k0 : PySem.W.keepIn K (.ref f0) = true)
    (a1 : PySem.W.nsIn K mainGlobals "is_sign" = some (some (.ref f1))) (l1 : K.lookup f1 = some ⟨oc1, od1, .func (PySem.W.fnOf "is_sign" "is_sign" (defArgs s_is_sign) (defBody s_is_sign) (defScope s_is_sign) .none kV1 dc1 pm1 an1 cd1 ct1), sl1⟩) (c1 : PySem.W.codeIn K cd1 "is_sign" = true) (k1 : PySem.W.keepIn K (.ref f1) = true)
    (a2 : PySem.W.nsIn K mainGlobals "is_way" = some (some (.ref f2))) (l2 : K.lookup f2 = some ⟨oc2, od2, .func (PySem.W.fnOf "is_way" "is_way" (defArgs s_is_way) (defBody s_is_way) (defScope s_is_way) .none kV2 dc2 pm2 an2 cd2 ct2), sl2⟩) (c2 : PySem.W.codeIn K cd2 "is_way" = true) (k2 : PySem.W.keepIn K (.ref f2) = true)
    (a3 : PySem.W.nsIn K mainGlobals "need_way" = some (some (.ref f3))) (l3 : K.lookup f3 = some ⟨oc3, od3, .func (PySem.W.fnOf "need_way" "need_way" (defArgs s_need_way) (defBody s_need_way) (defScope s_need_way) .none kV3 dc3 pm3 an3 cd3 ct3), sl3⟩) (c3 : PySem.W.codeIn K cd3 "need_way" = true) (k3 : PySem.W.keepIn K (.ref f3) = true)
    (a4 : PySem.W.nsIn K mainGlobals "brackets_in" = some (some (.ref f4))) (l4 : K.lookup f4 = some ⟨oc4, od4, .func (PySem.W.fnOf "brackets_in" "brackets_in" (defArgs s_brackets_in) (defBody s_brackets_in) (defScope s_brackets_in) .none kV4 dc4 pm4 an4 cd4 ct4), sl4⟩) (c4 : PySem.W.codeIn K cd4 "brackets_in" = true) (k4 : PySem.W.keepIn K (.ref f4) = true)
    (a5 : PySem.W.nsIn K mainGlobals "count_brackets" = some (some (.ref f5))) (l5 : K.lookup f5 = some ⟨oc5, od5, .func (PySem.W.fnOf "count_brackets" "count_brackets" (defArgs s_count_brackets) (defBody s_count_brackets) (defScope s_count_brackets) .none kV5 dc5 pm5 an5 cd5 ct5), sl5⟩) (c5 : PySem.W.codeIn K cd5 "count_brackets" = true) (k5 : PySem.W.keepIn K (.ref f5) = true)
    (a6 : PySem.W.nsIn K mainGlobals "own_sign" = some (some (.ref f6))) (l6 : K.lookup f6 = some ⟨oc6, od6, .func (PySem.W.fnOf "own_sign" "own_sign" (defArgs s_own_sign) (defBody s_own_sign) (defScope s_own_sign) .none kV6 dc6 pm6 an6 cd6 ct6), sl6⟩) (c6 : PySem.W.codeIn K cd6 "own_sign" = true) (k6 : PySem.W.keepIn K (.ref f6) = true)
    (a7 : PySem.W.nsIn K mainGlobals "brackets_around" = some (some (.ref f7))) (l7 : K.lookup f7 = some ⟨oc7, od7, .func (PySem.W.fnOf "brackets_around" "brackets_around" (defArgs s_brackets_around) (defBody s_brackets_around) (defScope s_brackets_around) .none kV7 dc7 pm7 an7 cd7 ct7), sl7⟩) (c7 : PySem.W.codeIn K cd7 "brackets_around" = true) (k7 : PySem.W.keepIn K (.ref f7) = true)
    (a8 : PySem.W.nsIn K mainGlobals "left_in_brackets" = some (some (.ref f8))) (l8 : K.lookup f8 = some ⟨oc8, od8, .func (PySem.W.fnOf "left_in_brackets" "left_in_brackets" (defArgs s_left_in_brackets) (defBody s_left_in_brackets) (defScope s_left_in_brackets) .none kV8 dc8 pm8 an8 cd8 ct8), sl8⟩) (c8 : PySem.W.codeIn K cd8 "left_in_brackets" = true) (k8 : PySem.W.keepIn K (.ref f8) = true)
    (a9 : PySem.W.nsIn K mainGlobals "right_in_brackets" = some (some (.ref f9))) (l9 : K.lookup f9 = some ⟨oc9, od9, .func (PySem.W.fnOf "right_in_brackets" "right_in_brackets" (defArgs s_right_in_brackets) (defBody s_right_in_brackets) (defScope s_right_in_brackets) .none kV9 dc9 pm9 an9 cd9 ct9), sl9⟩) (c9 : PySem.W.codeIn K cd9 "right_in_brackets" = true) (k9 : PySem.W.keepIn K (.ref f9) = true)
    (a10 : PySem.W.nsIn K mainGlobals "way_text" = some (some (.ref f10))) (l10 : K.lookup f10 = some ⟨oc10, od10, .func (PySem.W.fnOf "way_text" "way_text" (defArgs s_way_text) (defBody s_way_text) (defScope s_way_text) .none kV10 dc10 pm10 an10 cd10 ct10), sl10⟩) (c10 : PySem.W.codeIn K cd10 "way_text" = true) (k10 : PySem.W.keepIn K (.ref f10) = true)
    (a11 : PySem.W.nsIn K mainGlobals "read_way" = some (some (.ref f11))) (l11 : K.lookup f11 = some ⟨oc11, od11, .func (PySem.W.fnOf "read_way" "read_way" (defArgs s_read_way) (defBody s_read_way) (defScope s_read_way) .none kV11 dc11 pm11 an11 cd11 ct11), sl11⟩) (c11 : PySem.W.codeIn K cd11 "read_way" = true) (k11 : PySem.W.keepIn K (.ref f11) = true)
    (a12 : PySem.W.nsIn K mainGlobals "need_text" = some (some (.ref f12))) (l12 : K.lookup f12 = some ⟨oc12, od12, .func (PySem.W.fnOf "need_text" "need_text" (defArgs s_need_text) (defBody s_need_text) (defScope s_need_text) .none kV12 dc12 pm12 an12 cd12 ct12), sl12⟩) (c12 : PySem.W.codeIn K cd12 "need_text" = true) (k12 : PySem.W.keepIn K (.ref f12) = true)
    (a13 : PySem.W.nsIn K mainGlobals "write_number" = some (some (.ref f13))) (l13 : K.lookup f13 = some ⟨oc13, od13, .func (PySem.W.fnOf "write_number" "write_number" (defArgs s_write_number) (defBody s_write_number) (defScope s_write_number) .none kV13 dc13 pm13 an13 cd13 ct13), sl13⟩) (c13 : PySem.W.codeIn K cd13 "write_number" = true) (k13 : PySem.W.keepIn K (.ref f13) = true)
    (a14 : PySem.W.nsIn K mainGlobals "are_figures" = some (some (.ref f14))) (l14 : K.lookup f14 = some ⟨oc14, od14, .func (PySem.W.fnOf "are_figures" "are_figures" (defArgs s_are_figures) (defBody s_are_figures) (defScope s_are_figures) .none kV14 dc14 pm14 an14 cd14 ct14), sl14⟩) (c14 : PySem.W.codeIn K cd14 "are_figures" = true) (k14 : PySem.W.keepIn K (.ref f14) = true)
    (a15 : PySem.W.nsIn K mainGlobals "read_number" = some (some (.ref f15))) (l15 : K.lookup f15 = some ⟨oc15, od15, .func (PySem.W.fnOf "read_number" "read_number" (defArgs s_read_number) (defBody s_read_number) (defScope s_read_number) .none kV15 dc15 pm15 an15 cd15 ct15), sl15⟩) (c15 : PySem.W.codeIn K cd15 "read_number" = true) (k15 : PySem.W.keepIn K (.ref f15) = true)
    (a16 : PySem.W.nsIn K mainGlobals "write_way" = some (some (.ref f16))) (l16 : K.lookup f16 = some ⟨oc16, od16, .func (PySem.W.fnOf "write_way" "write_way" (defArgs s_write_way) (defBody s_write_way) (defScope s_write_way) .none kV16 dc16 pm16 an16 cd16 ct16), sl16⟩) (c16 : PySem.W.codeIn K cd16 "write_way" = true) (k16 : PySem.W.keepIn K (.ref f16) = true)
    (a17 : PySem.W.nsIn K mainGlobals "put_brackets" = some (some (.ref f17))) (l17 : K.lookup f17 = some ⟨oc17, od17, .func (PySem.W.fnOf "put_brackets" "put_brackets" (defArgs s_put_brackets) (defBody s_put_brackets) (defScope s_put_brackets) .none kV17 dc17 pm17 an17 cd17 ct17), sl17⟩) (c17 : PySem.W.codeIn K cd17 "put_brackets" = true) (k17 : PySem.W.keepIn K (.ref f17) = true)
    (a18 : PySem.W.nsIn K mainGlobals "find_way" = some (some (.ref f18))) (l18 : K.lookup f18 = some ⟨oc18, od18, .func (PySem.W.fnOf "find_way" "find_way" (defArgs s_find_way) (defBody s_find_way) (defScope s_find_way) .none kV18 dc18 pm18 an18 cd18 ct18), sl18⟩) (c18 : PySem.W.codeIn K cd18 "find_way" = true) (k18 : PySem.W.keepIn K (.ref f18) = true)
    (a19 : PySem.W.nsIn K mainGlobals "without_brackets" = some (some (.ref f19))) (l19 : K.lookup f19 = some ⟨oc19, od19, .func (PySem.W.fnOf "without_brackets" "without_brackets" (defArgs s_without_brackets) (defBody s_without_brackets) (defScope s_without_brackets) .none kV19 dc19 pm19 an19 cd19 ct19), sl19⟩) (c19 : PySem.W.codeIn K cd19 "without_brackets" = true) (k19 : PySem.W.keepIn K (.ref f19) = true)
    (a20 : PySem.W.nsIn K mainGlobals "last_joint" = some (some (.ref f20))) (l20 : K.lookup f20 = some ⟨oc20, od20, .func (PySem.W.fnOf "last_joint" "last_joint" (defArgs s_last_joint) (defBody s_last_joint) (defScope s_last_joint) .none kV20 dc20 pm20 an20 cd20 ct20), sl20⟩) (c20 : PySem.W.codeIn K cd20 "last_joint" = true) (k20 : PySem.W.keepIn K (.ref f20) = true)
    (a21 : PySem.W.nsIn K mainGlobals "_law_well" = some (some (.ref f21))) (l21 : K.lookup f21 = some ⟨oc21, od21, .func (PySem.W.fnOf "_law_well" "_law_well" (defArgs s__law_well) (defBody s__law_well) (defScope s__law_well) .none kV21 dc21 pm21 an21 cd21 ct21), sl21⟩) (c21 : PySem.W.codeIn K cd21 "_law_well" = true) (k21 : PySem.W.keepIn K (.ref f21) = true)
    (a22 : PySem.W.nsIn K mainGlobals "_law_draw" = some (some (.ref f22))) (l22 : K.lookup f22 = some ⟨oc22, od22, .func (PySem.W.fnOf "_law_draw" "_law_draw" (defArgs s__law_draw) (defBody s__law_draw) (defScope s__law_draw) .none kV22 dc22 pm22 an22 cd22 ct22), sl22⟩) (c22 : PySem.W.codeIn K cd22 "_law_draw" = true) (k22 : PySem.W.keepIn K (.ref f22) = true)
    (a23 : PySem.W.nsIn K mainGlobals "_law_row" = some (some (.ref f23))) (l23 : K.lookup f23 = some ⟨oc23, od23, .func (PySem.W.fnOf "_law_row" "_law_row" (defArgs s__law_row) (defBody s__law_row) (defScope s__law_row) .none kV23 dc23 pm23 an23 cd23 ct23), sl23⟩) (c23 : PySem.W.codeIn K cd23 "_law_row" = true) (k23 : PySem.W.keepIn K (.ref f23) = true)
    (a24 : PySem.W.nsIn K mainGlobals "_law_figures" = some (some (.ref f24))) (l24 : K.lookup f24 = some ⟨oc24, od24, .func (PySem.W.fnOf "_law_figures" "_law_figures" (defArgs s__law_figures) (defBody s__law_figures) (defScope s__law_figures) .none kV24 dc24 pm24 an24 cd24 ct24), sl24⟩) (c24 : PySem.W.codeIn K cd24 "_law_figures" = true) (k24 : PySem.W.keepIn K (.ref f24) = true)
    (a25 : PySem.W.nsIn K mainGlobals "_law_written" = some (some (.ref f25))) (l25 : K.lookup f25 = some ⟨oc25, od25, .func (PySem.W.fnOf "_law_written" "_law_written" (defArgs s__law_written) (defBody s__law_written) (defScope s__law_written) .none kV25 dc25 pm25 an25 cd25 ct25), sl25⟩) (c25 : PySem.W.codeIn K cd25 "_law_written" = true) (k25 : PySem.W.keepIn K (.ref f25) = true)
    (a26 : PySem.W.nsIn K mainGlobals "_law_any_way" = some (some (.ref f26))) (l26 : K.lookup f26 = some ⟨oc26, od26, .func (PySem.W.fnOf "_law_any_way" "_law_any_way" (defArgs s__law_any_way) (defBody s__law_any_way) (defScope s__law_any_way) .none kV26 dc26 pm26 an26 cd26 ct26), sl26⟩) (c26 : PySem.W.codeIn K cd26 "_law_any_way" = true) (k26 : PySem.W.keepIn K (.ref f26) = true)
    (a27 : PySem.W.nsIn K mainGlobals "_law_same" = some (some (.ref f27))) (l27 : K.lookup f27 = some ⟨oc27, od27, .func (PySem.W.fnOf "_law_same" "_law_same" (defArgs s__law_same) (defBody s__law_same) (defScope s__law_same) .none kV27 dc27 pm27 an27 cd27 ct27), sl27⟩) (c27 : PySem.W.codeIn K cd27 "_law_same" = true) (k27 : PySem.W.keepIn K (.ref f27) = true)
    (a28 : PySem.W.nsIn K mainGlobals "law" = some (some (.ref f28))) (l28 : K.lookup f28 = some ⟨oc28, od28, .func (PySem.W.fnOf "law" "law" (defArgs s_law) (defBody s_law) (defScope s_law) .none kV28 dc28 pm28 an28 cd28 ct28), sl28⟩) (c28 : PySem.W.codeIn K cd28 "law" = true) (k28 : PySem.W.keepIn K (.ref f28) = true)
    (z_len : PySem.W.nsIn K mainGlobals "len" = some none)
    (z_isinstance : PySem.W.nsIn K mainGlobals "isinstance" = some none)
    (z_int : PySem.W.nsIn K mainGlobals "int" = some none)
    (z_bool : PySem.W.nsIn K mainGlobals "bool" = some none)
    (z_str : PySem.W.nsIn K mainGlobals "str" = some none)
    (z_tuple : PySem.W.nsIn K mainGlobals "tuple" = some none)
    (z_list : PySem.W.nsIn K mainGlobals "list" = some none)
    (z_sorted : PySem.W.nsIn K mainGlobals "sorted" = some none)
    (z_range : PySem.W.nsIn K mainGlobals "range" = some none)
    (z_repr : PySem.W.nsIn K mainGlobals "repr" = some none)
    (z_enumerate : PySem.W.nsIn K mainGlobals "enumerate" = some none)
    (z_sum : PySem.W.nsIn K mainGlobals "sum" = some none)
    (z_all : PySem.W.nsIn K mainGlobals "all" = some none)
    (z_min : PySem.W.nsIn K mainGlobals "min" = some none)
    (z_max : PySem.W.nsIn K mainGlobals "max" = some none)
    (z_abs : PySem.W.nsIn K mainGlobals "abs" = some none)
    (z_divmod : PySem.W.nsIn K mainGlobals "divmod" = some none)
    (z_dict : PySem.W.nsIn K mainGlobals "dict" = some none)
    (z_set : PySem.W.nsIn K mainGlobals "set" = some none)
    (z_reversed : PySem.W.nsIn K mainGlobals "reversed" = some none)
    (z_any : PySem.W.nsIn K mainGlobals "any" = some none)
    (z_zip : PySem.W.nsIn K mainGlobals "zip" = some none)
    (gM : PySem.W.nsIn K mainGlobals "MOST_NUMBERS" = some (some (.int 9 tM)))
    (gS : PySem.W.nsIn K mainGlobals "SIGNS" = some (some (.ref cS)))
    (lS : K.lookup cS = some ⟨.type "tuple", odS, .seq #[.str "+" tS1, .str "-" tS2, .str "*" tS3] nS, slS⟩)
    (gFg : PySem.W.nsIn K mainGlobals "FIGURES" = some (some (.str "0123456789" tFg)))
    (gBl : PySem.W.nsIn K mainGlobals "BELOW" = some (some (.str "~" tBl))) :
    ∃ fd : FuncData, (∀ (s : Shared) (v : Value), BindsTo s fd ⟨[v], []⟩ [("script", v)]) ∧ ∀ base : Heap, K.In base → base.Ns mainGlobals mg → FnOk l.prog w K mg base CX0 25 fa fd ["script"] (spLaw K) := by
  have e := hfa.symm.trans (PySem.W.mg_of X G a28)
  cases e
  have F_is_whole := fun_mk (st := s_is_whole) l0 c0 k0
  have b_is_whole := F_is_whole.binds (ps := ["thing"]) fun _ _ _ _ _ _ us hl => match us, hl with | [_], _ => rfl
  have m_is_whole := PySem.W.mg_of X G a0
  have F_is_sign := fun_mk (st := s_is_sign) l1 c1 k1
  have b_is_sign := F_is_sign.binds (ps := ["thing"]) fun _ _ _ _ _ _ us hl => match us, hl with | [_], _ => rfl
  have m_is_sign := PySem.W.mg_of X G a1
  have F_is_way := fun_mk (st := s_is_way) l2 c2 k2
  have b_is_way := F_is_way.binds (ps := ["thing"]) fun _ _ _ _ _ _ us hl => match us, hl with | [_], _ => rfl
  have m_is_way := PySem.W.mg_of X G a2
  have F_need_way := fun_mk (st := s_need_way) l3 c3 k3
  have b_need_way := F_need_way.binds (ps := ["thing"]) fun _ _ _ _ _ _ us hl => match us, hl with | [_], _ => rfl
  have m_need_way := PySem.W.mg_of X G a3
  have F_brackets_in := fun_mk (st := s_brackets_in) l4 c4 k4
  have b_brackets_in := F_brackets_in.binds (ps := ["way"]) fun _ _ _ _ _ _ us hl => match us, hl with | [_], _ => rfl
  have m_brackets_in := PySem.W.mg_of X G a4
  have F_count_brackets := fun_mk (st := s_count_brackets) l5 c5 k5
  have b_count_brackets := F_count_brackets.binds (ps := ["way"]) fun _ _ _ _ _ _ us hl => match us, hl with | [_], _ => rfl
  have m_count_brackets := PySem.W.mg_of X G a5
  have F_own_sign := fun_mk (st := s_own_sign) l6 c6 k6
  have b_own_sign := F_own_sign.binds (ps := ["way"]) fun _ _ _ _ _ _ us hl => match us, hl with | [_], _ => rfl
  have m_own_sign := PySem.W.mg_of X G a6
  have F_brackets_around := fun_mk (st := s_brackets_around) l7 c7 k7
  have b_brackets_around := F_brackets_around.binds (ps := ["sign", "left_sign", "right_sign"]) fun _ _ _ _ _ _ us hl => match us, hl with | [_, _, _], _ => rfl
  have m_brackets_around := PySem.W.mg_of X G a7
  have F_left_in_brackets := fun_mk (st := s_left_in_brackets) l8 c8 k8
  have b_left_in_brackets := F_left_in_brackets.binds (ps := ["sign", "left_sign"]) fun _ _ _ _ _ _ us hl => match us, hl with | [_, _], _ => rfl
  have m_left_in_brackets := PySem.W.mg_of X G a8
  have F_right_in_brackets := fun_mk (st := s_right_in_brackets) l9 c9 k9
  have b_right_in_brackets := F_right_in_brackets.binds (ps := ["sign", "right_sign"]) fun _ _ _ _ _ _ us hl => match us, hl with | [_, _], _ => rfl
  have m_right_in_brackets := PySem.W.mg_of X G a9
  have F_way_text := fun_mk (st := s_way_text) l10 c10 k10
  have b_way_text := F_way_text.binds (ps := ["way"]) fun _ _ _ _ _ _ us hl => match us, hl with | [_], _ => rfl
  have m_way_text := PySem.W.mg_of X G a10
  have F_read_way := fun_mk (st := s_read_way) l11 c11 k11
  have b_read_way := F_read_way.binds (ps := ["text"]) fun _ _ _ _ _ _ us hl => match us, hl with | [_], _ => rfl
  have m_read_way := PySem.W.mg_of X G a11
  have F_need_text := fun_mk (st := s_need_text) l12 c12 k12
  have b_need_text := F_need_text.binds (ps := ["thing"]) fun _ _ _ _ _ _ us hl => match us, hl with | [_], _ => rfl
  have m_need_text := PySem.W.mg_of X G a12
  have F_write_number := fun_mk (st := s_write_number) l13 c13 k13
  have b_write_number := F_write_number.binds (ps := ["number"]) fun _ _ _ _ _ _ us hl => match us, hl with | [_], _ => rfl
  have m_write_number := PySem.W.mg_of X G a13
  have F_are_figures := fun_mk (st := s_are_figures) l14 c14 k14
  have b_are_figures := F_are_figures.binds (ps := ["text"]) fun _ _ _ _ _ _ us hl => match us, hl with | [_], _ => rfl
  have m_are_figures := PySem.W.mg_of X G a14
  have F_read_number := fun_mk (st := s_read_number) l15 c15 k15
  have b_read_number := F_read_number.binds (ps := ["text"]) fun _ _ _ _ _ _ us hl => match us, hl with | [_], _ => rfl
  have m_read_number := PySem.W.mg_of X G a15
  have F_write_way := fun_mk (st := s_write_way) l16 c16 k16
  have b_write_way := F_write_way.binds (ps := ["way"]) fun _ _ _ _ _ _ us hl => match us, hl with | [_], _ => rfl
  have m_write_way := PySem.W.mg_of X G a16
  have F_put_brackets := fun_mk (st := s_put_brackets) l17 c17 k17
  have b_put_brackets := F_put_brackets.binds (ps := ["text", "is_due"]) fun _ _ _ _ _ _ us hl => match us, hl with | [_, _], _ => rfl
  have m_put_brackets := PySem.W.mg_of X G a17
  have F_find_way := fun_mk (st := s_find_way) l18 c18 k18
  have b_find_way := F_find_way.binds (ps := ["text"]) fun _ _ _ _ _ _ us hl => match us, hl with | [_], _ => rfl
  have m_find_way := PySem.W.mg_of X G a18
  have F_without_brackets := fun_mk (st := s_without_brackets) l19 c19 k19
  have b_without_brackets := F_without_brackets.binds (ps := ["text"]) fun _ _ _ _ _ _ us hl => match us, hl with | [_], _ => rfl
  have m_without_brackets := PySem.W.mg_of X G a19
  have F_last_joint := fun_mk (st := s_last_joint) l20 c20 k20
  have b_last_joint := F_last_joint.binds (ps := ["text"]) fun _ _ _ _ _ _ us hl => match us, hl with | [_], _ => rfl
  have m_last_joint := PySem.W.mg_of X G a20
  have F__law_well := fun_mk (st := s__law_well) l21 c21 k21
  have b__law_well := F__law_well.binds (ps := ["cell"]) fun _ _ _ _ _ _ us hl => match us, hl with | [_], _ => rfl
  have m__law_well := PySem.W.mg_of X G a21
  have F__law_draw := fun_mk (st := s__law_draw) l22 c22 k22
  have b__law_draw := F__law_draw.binds (ps := ["well", "many"]) fun _ _ _ _ _ _ us hl => match us, hl with | [_, _], _ => rfl
  have m__law_draw := PySem.W.mg_of X G a22
  have F__law_row := fun_mk (st := s__law_row) l23 c23 k23
  have b__law_row := F__law_row.binds (ps := ["well", "many"]) fun _ _ _ _ _ _ us hl => match us, hl with | [_, _], _ => rfl
  have m__law_row := PySem.W.mg_of X G a23
  have F__law_figures := fun_mk (st := s__law_figures) l24 c24 k24
  have b__law_figures := F__law_figures.binds (ps := ["number"]) fun _ _ _ _ _ _ us hl => match us, hl with | [_], _ => rfl
  have m__law_figures := PySem.W.mg_of X G a24
  have F__law_written := fun_mk (st := s__law_written) l25 c25 k25
  have b__law_written := F__law_written.binds (ps := ["way"]) fun _ _ _ _ _ _ us hl => match us, hl with | [_], _ => rfl
  have m__law_written := PySem.W.mg_of X G a25
  have F__law_any_way := fun_mk (st := s__law_any_way) l26 c26 k26
  have b__law_any_way := F__law_any_way.binds (ps := ["well", "row"]) fun _ _ _ _ _ _ us hl => match us, hl with | [_, _], _ => rfl
  have m__law_any_way := PySem.W.mg_of X G a26
  have F__law_same := fun_mk (st := s__law_same) l27 c27 k27
  have b__law_same := F__law_same.binds (ps := ["found", "due"]) fun _ _ _ _ _ _ us hl => match us, hl with | [_, _], _ => rfl
  have m__law_same := PySem.W.mg_of X G a27
  have F_law := fun_mk (st := s_law) l28 c28 k28
  have B : Bu K mg := ⟨PySem.W.mg_none_of X G z_len, PySem.W.mg_none_of X G z_isinstance, PySem.W.mg_none_of X G z_int, PySem.W.mg_none_of X G z_bool, PySem.W.mg_none_of X G z_str, PySem.W.mg_none_of X G z_tuple, PySem.W.mg_none_of X G z_list, PySem.W.mg_none_of X G z_sorted, PySem.W.mg_none_of X G z_range, PySem.W.mg_none_of X G z_repr, PySem.W.mg_none_of X G z_enumerate, PySem.W.mg_none_of X G z_sum, PySem.W.mg_none_of X G z_all, PySem.W.mg_none_of X G z_min, PySem.W.mg_none_of X G z_max, PySem.W.mg_none_of X G z_abs, PySem.W.mg_none_of X G z_divmod, PySem.W.mg_none_of X G z_dict, PySem.W.mg_none_of X G z_set, PySem.W.mg_none_of X G z_reversed, PySem.W.mg_none_of X G z_any, PySem.W.mg_none_of X G z_zip⟩
  have B' : Co K mg tM cS := ⟨PySem.W.mg_of X G gM, PySem.W.mg_of X G gS, fun H => .inr ⟨_, _, _, lS, rfl, rfl, by show 3 ≤ sizeLine; decide, .cons ⟨_, rfl⟩ (.cons ⟨_, rfl⟩ (.cons ⟨_, rfl⟩ .nil))⟩⟩
  have B2 : Cf K mg tFg tBl := ⟨PySem.W.mg_of X G gFg, PySem.W.mg_of X G gBl⟩
  refine ⟨PySem.W.fnOf "law" "law" (defArgs s_law) (defBody s_law) (defScope s_law) .none kV28 dc28 pm28 an28 cd28 ct28, fun s v => .of_eq rfl, fun base _ _ => ?_⟩
  have C_is_whole : Cal l.prog w K mg base "is_whole" 1 ["thing"] (spWhole K) := ⟨_, _, ok_is_whole F_is_whole B, b_is_whole, F_is_whole.kp, m_is_whole⟩
  have C_is_sign : Cal l.prog w K mg base "is_sign" 1 ["thing"] spSign := ⟨_, _, ok_is_sign F_is_sign B B', b_is_sign, F_is_sign.kp, m_is_sign⟩
  have C_is_way : Cal l.prog w K mg base "is_way" 2 ["thing"] spIsWay := ⟨_, _, ok_is_way F_is_way B B' C_is_whole C_is_sign, b_is_way, F_is_way.kp, m_is_way⟩
  have C_need_way : Cal l.prog w K mg base "need_way" 3 ["thing"] spNeedWay := ⟨_, _, ok_need_way F_need_way C_is_way, b_need_way, F_need_way.kp, m_need_way⟩
  have C__law_well : Cal l.prog w K mg base "_law_well" 1 ["cell"] spWell := ⟨_, _, ok_well F__law_well B, b__law_well, F__law_well.kp, m__law_well⟩
  have C__law_draw : Cal l.prog w K mg base "_law_draw" 2 ["well", "many"] spDraw := ⟨_, _, ok_draw F__law_draw, b__law_draw, F__law_draw.kp, m__law_draw⟩
  have C__law_row : Cal l.prog w K mg base "_law_row" 3 ["well", "many"] spRow := ⟨_, _, ok_row F__law_row B C__law_draw, b__law_row, F__law_row.kp, m__law_row⟩
  have C_left_in_brackets : Cal l.prog w K mg base "left_in_brackets" 1 ["sign", "left_sign"] spLeft := ⟨_, _, ok_left F_left_in_brackets, b_left_in_brackets, F_left_in_brackets.kp, m_left_in_brackets⟩
  have C_right_in_brackets : Cal l.prog w K mg base "right_in_brackets" 1 ["sign", "right_sign"] spRightB := ⟨_, _, ok_rightB F_right_in_brackets, b_right_in_brackets, F_right_in_brackets.kp, m_right_in_brackets⟩
  have C_brackets_around : Cal l.prog w K mg base "brackets_around" 2 ["sign", "left_sign", "right_sign"] spAround := ⟨_, _, ok_around F_brackets_around C_left_in_brackets C_right_in_brackets, b_brackets_around, F_brackets_around.kp, m_brackets_around⟩
  have C_own_sign : Cal l.prog w K mg base "own_sign" 2 ["way"] spOwn := ⟨_, _, ok_own F_own_sign C_is_whole, b_own_sign, F_own_sign.kp, m_own_sign⟩
  have C_count_brackets : Cal l.prog w K mg base "count_brackets" 23 ["way"] (spCount 20) := ⟨_, _, ok_count F_count_brackets b_count_brackets m_count_brackets C_is_whole C_own_sign C_brackets_around 20, b_count_brackets, F_count_brackets.kp, m_count_brackets⟩
  have C_brackets_in : Cal l.prog w K mg base "brackets_in" 24 ["way"] spBrk := ⟨_, _, ok_brackets_in F_brackets_in C_need_way C_count_brackets, b_brackets_in, F_brackets_in.kp, m_brackets_in⟩
  have C_write_number : Cal l.prog w K mg base "write_number" 1 ["number"] spWN := ⟨_, _, ok_write_number F_write_number B B2, b_write_number, F_write_number.kp, m_write_number⟩
  have C_are_figures : Cal l.prog w K mg base "are_figures" 1 ["text"] spFigs := ⟨_, _, ok_are_figures F_are_figures B B2, b_are_figures, F_are_figures.kp, m_are_figures⟩
  have C_read_number : Cal l.prog w K mg base "read_number" 2 ["text"] spReadN := ⟨_, _, ok_read_number F_read_number B B2 C_are_figures, b_read_number, F_read_number.kp, m_read_number⟩
  have C_put_brackets : Cal l.prog w K mg base "put_brackets" 1 ["text", "is_due"] spPutB := ⟨_, _, ok_put_brackets F_put_brackets, b_put_brackets, F_put_brackets.kp, m_put_brackets⟩
  have C_write_way : Cal l.prog w K mg base "write_way" 12 ["way"] (spWW 9) := ⟨_, _, ok_write_way F_write_way b_write_way m_write_way C_is_whole C_write_number C_own_sign C_left_in_brackets C_right_in_brackets C_put_brackets 9, b_write_way, F_write_way.kp, m_write_way⟩
  have C_last_joint : Cal l.prog w K mg base "last_joint" 1 ["text"] spJoint := ⟨_, _, ok_last_joint F_last_joint B, b_last_joint, F_last_joint.kp, m_last_joint⟩
  have C_without_brackets : Cal l.prog w K mg base "without_brackets" 2 ["text"] spWob := ⟨_, _, ok_without_brackets F_without_brackets C_last_joint, b_without_brackets, F_without_brackets.kp, m_without_brackets⟩
  have C_find_way : Cal l.prog w K mg base "find_way" 12 ["text"] (spFind 9) := ⟨_, _, ok_find_way F_find_way b_find_way m_find_way C_read_number C_last_joint C_without_brackets 9, b_find_way, F_find_way.kp, m_find_way⟩
  have C_need_text : Cal l.prog w K mg base "need_text" 1 ["thing"] spNeedText := ⟨_, _, ok_need_text F_need_text B, b_need_text, F_need_text.kp, m_need_text⟩
  have C_way_text : Cal l.prog w K mg base "way_text" 13 ["way"] spWayText := ⟨_, _, ok_way_text F_way_text C_need_way C_write_way, b_way_text, F_way_text.kp, m_way_text⟩
  have C_read_way : Cal l.prog w K mg base "read_way" 13 ["text"] spReadWay := ⟨_, _, ok_read_way F_read_way B B' C_need_text C_find_way C_write_way, b_read_way, F_read_way.kp, m_read_way⟩
  have C__law_figures : Cal l.prog w K mg base "_law_figures" 1 ["number"] spWN := ⟨_, _, ok_law_figures F__law_figures B, b__law_figures, F__law_figures.kp, m__law_figures⟩
  have C__law_written : Cal l.prog w K mg base "_law_written" 11 ["way"] (spWW 9) := ⟨_, _, ok_law_written F__law_written b__law_written m__law_written B C__law_figures 9, b__law_written, F__law_written.kp, m__law_written⟩
  have C__law_any_way : Cal l.prog w K mg base "_law_any_way" 11 ["well", "row"] (spAny 9) := ⟨_, _, ok_any_way F__law_any_way b__law_any_way m__law_any_way B C__law_draw 9, b__law_any_way, F__law_any_way.kp, m__law_any_way⟩
  have C__law_same : Cal l.prog w K mg base "_law_same" 10 ["found", "due"] (spSame 9) := ⟨_, _, ok_law_same F__law_same b__law_same m__law_same B 9, b__law_same, F__law_same.kp, m__law_same⟩
  exact ok_law F_law B C__law_well C__law_draw C__law_row C__law_any_way C__law_written C_way_text C_read_way C__law_same C_brackets_in
theorem walk {l : PySem.W.OpenLaw} {q : Program} {loose : List Str} {XP : (Str → Option Value) → Heap → Prop} {YP : World → Heap → Prop} {d : DefRec} {K : Params → PySem.W.Frag} (hn : l.most = some 63) (hdf : d.params.defaults = []) (hi : PyProof.Rows.importsNone q = true)
    (hY : ∀ (w : World) (h : Heap), YP w h → (K w.params).In h)
    (F : ∀ (w : World) (mg : Str → Option Value) (fa : Addr) (h : Heap), (K w.params).In h → h.Ns mainGlobals mg → mg d.name = some (.ref fa) →
      ∃ fd : FuncData, (∀ (s : Shared) (u : Value), BindsTo s fd ⟨[u], []⟩ [("script", u)]) ∧ ∀ base : Heap, (K w.params).In base → base.Ns mainGlobals mg → FnOk l.prog w (K w.params) mg base CX0 25 fa fd ["script"] (spLaw (K w.params))) :
    PySem.W.WalkO q loose XP YP l.row.toRowW d [] (fun f vs => PySem.call f vs) :=
  L2.walk_of (n := 63) (k := 25) (x := "script") (CX := fun _ => CX0) (sp := fun w => spLaw (K w.params)) hn (by decide) hdf ⟨rfl, by decide, by decide, rfl⟩ hi hY F (fun _ _ a ns hl _ hS => ⟨a, ns, rfl, hS, hl, fun _ => rfl⟩) fun _ _ _ _ _ z => z
end Put
open PySem PySem.W PyProof.Rows
set_option maxRecDepth 100000 in
set_option maxHeartbeats 0 in
theorem PySem.Challenge.cw_putsigns_k50_ways_written_holds : PySem.Challenge.rw_putsigns_k50_ways_written.Holds := by
  w_on; o_law; k_head; (case hw => w_witness2)
  k_fill
  refine Put.walk (l := PySem.Challenge.rw_putsigns_k50_ways_written) rfl rfl ?hi (fun w h Y => PySem.W.kIn_of Y) ?F
  case hi => first | rfl | decide +kernel
  case F =>
    intro w mg fa h KX G hmg
    refine' Put.all_mk KX G hmg ?a0 ?l0 ?c0 ?k0 ?a1 ?l1 ?c1 ?k1 ?a2 ?l2 ?c2 ?k2 ?a3 ?l3 ?c3 ?k3 ?a4 ?l4 ?c4 ?k4 ?a5 ?l5 ?c5 ?k5 ?a6 ?l6 ?c6 ?k6 ?a7 ?l7 ?c7 ?k7 ?a8 ?l8 ?c8 ?k8 ?a9 ?l9 ?c9 ?k9 ?a10 ?l10 ?c10 ?k10 ?a11 ?l11 ?c11 ?k11 ?a12 ?l12 ?c12 ?k12 ?a13 ?l13 ?c13 ?k13 ?a14 ?l14 ?c14 ?k14 ?a15 ?l15 ?c15 ?k15 ?a16 ?l16 ?c16 ?k16 ?a17 ?l17 ?c17 ?k17 ?a18 ?l18 ?c18 ?k18 ?a19 ?l19 ?c19 ?k19 ?a20 ?l20 ?c20 ?k20 ?a21 ?l21 ?c21 ?k21 ?a22 ?l22 ?c22 ?k22 ?a23 ?l23 ?c23 ?k23 ?a24 ?l24 ?c24 ?k24 ?a25 ?l25 ?c25 ?k25 ?a26 ?l26 ?c26 ?k26 ?a27 ?l27 ?c27 ?k27 ?a28 ?l28 ?c28 ?k28 ?z_len ?z_isinstance ?z_int ?z_bool ?z_str ?z_tuple ?z_list ?z_sorted ?z_range ?z_repr ?z_enumerate ?z_sum ?z_all ?z_min ?z_max ?z_abs ?z_divmod ?z_dict ?z_set ?z_reversed ?z_any ?z_zip ?gM ?gS ?lS ?gFg ?gBl
    (case a0 => k_is)
    (case l0 => k_is)
    (case c0 => k_is)
    (case k0 => k_is)
    (case a1 => k_is)
    (case l1 => k_is)
    (case c1 => k_is)
    (case k1 => k_is)
    (case a2 => k_is)
    (case l2 => k_is)
    (case c2 => k_is)
    (case k2 => k_is)
    (case a3 => k_is)
    (case l3 => k_is)
    (case c3 => k_is)
    (case k3 => k_is)
    (case a4 => k_is)
    (case l4 => k_is)
    (case c4 => k_is)
    (case k4 => k_is)
    (case a5 => k_is)
    (case l5 => k_is)
    (case c5 => k_is)
    (case k5 => k_is)
    (case a6 => k_is)
    (case l6 => k_is)
    (case c6 => k_is)
    (case k6 => k_is)
    (case a7 => k_is)
    (case l7 => k_is)
    (case c7 => k_is)
    (case k7 => k_is)
    (case a8 => k_is)
    (case l8 => k_is)
    (case c8 => k_is)
    (case k8 => k_is)
    (case a9 => k_is)
    (case l9 => k_is)
    (case c9 => k_is)
    (case k9 => k_is)
    (case a10 => k_is)
    (case l10 => k_is)
    (case c10 => k_is)
    (case k10 => k_is)
    (case a11 => k_is)
    (case l11 => k_is)
    (case c11 => k_is)
    (case k11 => k_is)
    (case a12 => k_is)
    (case l12 => k_is)
    (case c12 => k_is)
    (case k12 => k_is)
    (case a13 => k_is)
    (case l13 => k_is)
    (case c13 => k_is)
    (case k13 => k_is)
    (case a14 => k_is)
    (case l14 => k_is)
    (case c14 => k_is)
    (case k14 => k_is)
    (case a15 => k_is)
    (case l15 => k_is)
    (case c15 => k_is)
    (case k15 => k_is)
    (case a16 => k_is)
    (case l16 => k_is)
    (case c16 => k_is)
    (case k16 => k_is)
    (case a17 => k_is)
    (case l17 => k_is)
    (case c17 => k_is)
    (case k17 => k_is)
    (case a18 => k_is)
    (case l18 => k_is)
    (case c18 => k_is)
    (case k18 => k_is)
    (case a19 => k_is)
    (case l19 => k_is)
    (case c19 => k_is)
    (case k19 => k_is)
    (case a20 => k_is)
    (case l20 => k_is)
    (case c20 => k_is)
    (case k20 => k_is)
    (case a21 => k_is)
    (case l21 => k_is)
    (case c21 => k_is)
    (case k21 => k_is)
    (case a22 => k_is)
    (case l22 => k_is)
    (case c22 => k_is)
    (case k22 => k_is)
    (case a23 => k_is)
    (case l23 => k_is)
    (case c23 => k_is)
    (case k23 => k_is)
    (case a24 => k_is)
    (case l24 => k_is)
    (case c24 => k_is)
    (case k24 => k_is)
    (case a25 => k_is)
    (case l25 => k_is)
    (case c25 => k_is)
    (case k25 => k_is)
    (case a26 => k_is)
    (case l26 => k_is)
    (case c26 => k_is)
    (case k26 => k_is)
    (case a27 => k_is)
    (case l27 => k_is)
    (case c27 => k_is)
    (case k27 => k_is)
    (case a28 => k_is)
    (case l28 => k_is)
    (case c28 => k_is)
    (case k28 => k_is)
    (case z_len => k_is)
    (case z_isinstance => k_is)
    (case z_int => k_is)
    (case z_bool => k_is)
    (case z_str => k_is)
    (case z_tuple => k_is)
    (case z_list => k_is)
    (case z_sorted => k_is)
    (case z_range => k_is)
    (case z_repr => k_is)
    (case z_enumerate => k_is)
    (case z_sum => k_is)
    (case z_all => k_is)
    (case z_min => k_is)
    (case z_max => k_is)
    (case z_abs => k_is)
    (case z_divmod => k_is)
    (case z_dict => k_is)
    (case z_set => k_is)
    (case z_reversed => k_is)
    (case z_any => k_is)
    (case z_zip => k_is)
    (case gM => k_is)
    (case gS => k_is)
    (case lS => k_is)
    (case gFg => k_is)
    (case gBl => k_is)

