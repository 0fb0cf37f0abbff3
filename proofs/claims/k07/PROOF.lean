import PyProof.Rows.All
import Wide.All
import OpenK.AllK
import Wide.FinOn
import Lean
import PyProof.EqAt
import PyProof.EqKinds
import PyProof.TupleCall
import PySem.Challenge.RW_putsigns_k07_refused_by_rows_and_ways
set_option Elab.async false
set_option linter.all false
set_option maxRecDepth 100000
namespace L2
open PySem PySem.Spec PyProof.Rows
abbrev Key := Sum Int Str
def keyIs : Key → Value → Bool
  | .inl k, v => Value.isInt k v
  | .inr x, v => Value.isStrOf x v
def keyH (w : World) : Key → Int
  | .inl k => hashInt k
  | .inr x => hashStr w x
theorem keyIs_shape : ∀ {k : Key} {v : Value}, keyIs k v = true → (∃ i t, k = Sum.inl i ∧ v = Value.int i t) ∨ (∃ x t, k = Sum.inr x ∧ v = Value.str x t)
  | .inl i, v, h => by
    obtain ⟨t, e⟩ := Value.isInt_shape (k := i) (v := v) h
    exact .inl ⟨i, t, rfl, e⟩
  | .inr x, v, h => by
    obtain ⟨t, e⟩ := Value.isStrOf_shape (x := x) (v := v) h
    exact .inr ⟨x, t, rfl, e⟩
theorem key_ll (a b : Int) : decide ((Sum.inl a : Key) = Sum.inl b) = (a == b) := by
  by_cases e : a = b
  · subst e; simp
  · have h : ¬ (Sum.inl a : Key) = Sum.inl b := fun q => e (Sum.inl.inj q)
    rw [decide_eq_false h]
    exact (beq_eq_false_iff_ne.mpr e).symm
theorem key_rr (a b : Str) : decide ((Sum.inr a : Key) = Sum.inr b) = decide (a = b) := by
  by_cases e : a = b
  · subst e; simp
  · have h : ¬ (Sum.inr a : Key) = Sum.inr b := fun q => e (Sum.inr.inj q)
    rw [decide_eq_false h, decide_eq_false e]
theorem key_lr (a : Int) (b : Str) : decide ((Sum.inl a : Key) = Sum.inr b) = false := decide_eq_false (fun q => nomatch q)
theorem key_rl (a : Str) (b : Int) : decide ((Sum.inr a : Key) = Sum.inl b) = false := decide_eq_false (fun q => nomatch q)
def mixKind (prog : Program) (w : World) : PySem.KeyKind prog w Key where
  is := keyIs
  hash := keyH w
  inj := fun v a b ha hb => by
    rcases keyIs_shape ha with ⟨i, t, rfl, rfl⟩ | ⟨x, t, rfl, rfl⟩
    · rcases keyIs_shape hb with ⟨j, u, rfl, e⟩ | ⟨y, u, rfl, e⟩
      · injection e with e1 _; rw [e1]
      · exact nomatch e
    · rcases keyIs_shape hb with ⟨j, u, rfl, e⟩ | ⟨y, u, rfl, e⟩
      · exact nomatch e
      · injection e with e1 _; rw [e1]
  byValue := fun k v h => by
    rcases keyIs_shape h with ⟨i, t, rfl, rfl⟩ | ⟨x, t, rfl, rfl⟩ <;> rfl
  pyHash := fun hv h => by
    rcases keyIs_shape hv with ⟨i, t, rfl, rfl⟩ | ⟨x, t, rfl, rfl⟩
    · exact wpAny_pyHash_int h
    · exact wpAny_pyHash_str h
  eqBool := fun hu hv h => by
    rcases keyIs_shape hu with ⟨i, t, rfl, rfl⟩ | ⟨x, t, rfl, rfl⟩
    · rcases keyIs_shape hv with ⟨j, u, rfl, rfl⟩ | ⟨y, u, rfl, rfl⟩
      · rw [key_ll] at h; exact wpAny_eqBool_int h
      · rw [key_lr] at h; exact SeqAt.EqAt.int_str i t y u _ _ _ _ h
    · rcases keyIs_shape hv with ⟨j, u, rfl, rfl⟩ | ⟨y, u, rfl, rfl⟩
      · rw [key_rl] at h; exact SeqAt.EqAt.str_int x t j u _ _ _ _ h
      · rw [key_rr] at h; exact wpAny_eqBool_str h
  «strs» := fun k x t v h => by
    rcases keyIs_shape h with ⟨i, u, rfl, e⟩ | ⟨y, u, rfl, e⟩
    · exact nomatch e
    · injection e with e1 _
      subst e1
      cases v <;> rfl
theorem mixKind_is (prog : Program) (w : World) (k : Key) (v : Value) : (mixKind prog w).is k v = keyIs k v := rfl
end L2
namespace L2
open PySem PySem.Spec PyProof.Rows
inductive V where
  | non | bl (b : Bool) | int (i : Int) | str (x : Str) | byt (b : Array UInt8) | flt (b : UInt64) | ref (a : Addr) | ty (n : String)
  deriving DecidableEq
def RelV : V → Value → Prop
  | .non, u => u = Value.none
  | .bl b, u => u = Value.bool b
  | .int i, u => ∃ t, u = Value.int i t
  | .str x, u => ∃ t, u = Value.str x t
  | .byt b, u => ∃ t, u = Value.bytes b t
  | .flt b, u => ∃ t, u = Value.float b t
  | .ref a, u => u = Value.ref a
  | .ty n, u => u = Value.type n
abbrev Vals : List V → List Value → Prop := Paired RelV
theorem Vals.length {xs : List V} {us : List Value} (r : Vals xs us) : xs.length = us.length := Paired.length r
theorem Vals.get : ∀ {xs : List V} {us : List Value} {i : Nat} {x : V}, Vals xs us → xs[i]? = some x → ∃ u, us[i]? = some u ∧ RelV x u
  | _, _, _, _, .nil, e => by simp at e
  | _, _, 0, _, .cons r _, e => by simp at e; subst e; exact ⟨_, rfl, r⟩
  | _, _, i + 1, x, .cons _ t, e => by
    obtain ⟨u, h1, h2⟩ := Vals.get (i := i) (x := x) t (by simpa using e)
    exact ⟨u, by simpa using h1, h2⟩
theorem Vals.set {x : V} {u : Value} (r : RelV x u) : ∀ {xs : List V} {us : List Value} (i : Nat), Vals xs us → Vals (xs.set i x) (us.set i u)
  | _, _, _, .nil => .nil
  | _, _, 0, .cons _ t => .cons r t
  | _, _, i + 1, .cons q t => .cons q (Vals.set r i t)
theorem Vals.append : ∀ {xs ys : List V} {us ws : List Value}, Vals xs us → Vals ys ws → Vals (xs ++ ys) (us ++ ws)
  | _, _, _, _, .nil, s => s
  | _, _, _, _, .cons r t, s => .cons r (Vals.append t s)
theorem Vals.take : ∀ {xs : List V} {us : List Value} (n : Nat), Vals xs us → Vals (xs.take n) (us.take n)
  | _, _, 0, _ => .nil
  | _, _, _ + 1, .nil => .nil
  | _, _, n + 1, .cons r t => .cons r (Vals.take n t)
theorem Vals.drop : ∀ {xs : List V} {us : List Value} (n : Nat), Vals xs us → Vals (xs.drop n) (us.drop n)
  | _, _, 0, r => r
  | _, _, _ + 1, .nil => .nil
  | _, _, n + 1, .cons _ t => Vals.drop n t
def RelO : Option V → Option Value → Prop
  | some v, some u => RelV v u
  | none, none => True
  | _, _ => False
def KV {κ : Type} : List (κ × V) → List (κ × Value) → Prop := Paired fun (p : κ × V) (q : κ × Value) => p.1 = q.1 ∧ RelV p.2 q.2
def kV : Key → V
  | .inl i => .int i
  | .inr x => .str x
inductive HO where
  | lst (xs : List V)
  | tup (xs : List V)
  | dK (kvs : List (Key × V)) | dT (kvs : List (List Key × V))
  | set (S : Int → Bool) (n : Nat)
  | ins (C dx : Addr) (fs : List (Str × V))
  | own (x : Addr)
  | xd (fs : List (Str × V))
  | met (f x : Addr)
  | rng (lo hi : Int)
  | frz (o : Obj) (u : HO)
  | tbl (ps : Array Value)
  | ext (φ : Heap → Prop)
abbrev Hp := Addr → Option HO
def upd (H : Hp) (a : Addr) (o : HO) : Hp := fun b => if b = a then some o else H b
theorem upd_same {H : Hp} {a : Addr} {o : HO} : upd H a o a = some o := by unfold upd; rw [if_pos rfl]
theorem upd_ne {H : Hp} {a b : Addr} {o : HO} (h : b ≠ a) : upd H a o b = H b := by unfold upd; rw [if_neg h]
theorem ne_of_none {H : Hp} {a b : Addr} {o : HO} (h : H a = some o) (h' : H b = none) : a ≠ b := by
  intro e; subst e; rw [h] at h'; cases h'
section
variable (P : Program) (w : World)
def ObjOk (H : Hp) (h : Heap) (a : Addr) : HO → Prop
  | .lst xs => xs.length ≤ sizeLine ∧ ∃ (its : List Value) (n : Nat), Vals xs its ∧ h.get? a = some { cls := .type "list", data := .seq its.toArray n }
  | .tup xs => xs.length ≤ sizeLine ∧ ∃ its : List Value, Vals xs its ∧ IsTup h a its.toArray
  | .dK kvs => kvs.length ≤ sizeLine ∧ (a == sysModules) = false ∧ ∃ vs, KV kvs vs ∧ h.DictOf (mixKind P w) a vs
  | .dT kvs => kvs.length ≤ sizeLine ∧ (a == sysModules) = false ∧ ∃ xs : List (List Key × Addr × Value),
      Paired (fun (p : List Key × V) (q : List Key × Addr × Value) => p.1 = q.1 ∧ H q.2.1 = some (.tup (p.1.map kV)) ∧ RelV p.2 q.2.2) kvs xs ∧
      ∃ o es ep, h.get? a = some o ∧ o.ExactDict ∧ o.data = .dict es ep ∧ es.toList = xs.map (entryOfKey (tupleKind (mixKind P w))) ∧ (xs.map (·.1)).Nodup
  | .set S n => h.SetOf (intKind P w) a S n
  | .ins C dx fs => H dx = some (.own a) ∧ fs.length ≤ 1000 ∧ dx ≠ a ∧ h.get? a = some (PySem.W.instObj C dx) ∧
      ∃ mA, h.Ns1 dx mA ∧ (∀ f, RelO (fs.lookup f) (mA f)) ∧ PySem.Within mA (fs.map (·.1))
  | .own _ => ∃ o, h.get? a = some o
  | .xd fs => ∃ mA, h.Ns1 a mA ∧ ∀ f, RelO (fs.lookup f) (mA f)
  | .rng lo hi => ∃ t u v, h.get? a = some { cls := .type "range", data := .fields #[.int lo t, .int hi u, .int 1 v] }
  | .frz o u => h.get? a = some o ∧ ObjOk H h a u
  | .tbl ps => h.get? a = some { cls := .none, data := .fields ps }
  | .met f x => h.get? a = some (PySem.W.methodObj (.ref f) (.ref x))
  | .ext φ => φ h ∧ (∃ o, h.get? a = some o) ∧ ∀ h1 h2 : Heap, φ h1 → (∀ o, h1.get? a = some o → h2.get? a = some o) → φ h2
def HOk (H : Hp) (h : Heap) : Prop := ∀ a o, H a = some o → ObjOk P w H h a o
end
section
variable {P : Program} {w : World} {H H' : Hp} {h h' : Heap} {a : Addr} {o : HO}
theorem ObjOk.lt (x : ObjOk P w H h a o) : a < h.objs.size := by
  cases o with
  | lst xs => obtain ⟨_, _, _, _, e⟩ := x; exact Heap.lt_size e
  | tup xs => obtain ⟨_, _, _, p⟩ := x; exact p.lt
  | dK kvs => obtain ⟨_, _, _, _, o, _, _, e, _⟩ := x; exact Heap.lt_size e
  | dT kvs => obtain ⟨_, _, _, _, o, _, _, e, _⟩ := x; exact Heap.lt_size e
  | set S n => obtain ⟨o, _, _, _, e, _⟩ := x; exact Heap.lt_size e
  | ins C dx fs => obtain ⟨_, _, _, e, _⟩ := x; exact Heap.lt_size e
  | own y => obtain ⟨_, e⟩ := x; exact Heap.lt_size e
  | xd fs => obtain ⟨_, ⟨_, _, _, e, _⟩, _⟩ := x; exact Heap.lt_size e
  | rng lo hi => obtain ⟨_, _, _, e⟩ := x; exact Heap.lt_size e
  | frz ob u => obtain ⟨e, _⟩ := x; exact Heap.lt_size e
  | tbl ps => exact Heap.lt_size (show h.get? a = some _ from x)
  | met f y => exact Heap.lt_size (show h.get? a = some _ from x)
  | ext φ => obtain ⟨_, ⟨_, e⟩, _⟩ := x; exact Heap.lt_size e
theorem Paired.mapP {α β : Type} {F G : α → β → Prop} : ∀ {l₁ : List α} {l₂ : List β}, Paired F l₁ l₂ → (∀ a b, F a b → G a b) → Paired G l₁ l₂
  | _, _, .nil, _ => .nil
  | _, _, .cons r t, f => .cons (f _ _ r) (Paired.mapP t f)
theorem ObjOk.stay (x : ObjOk P w H h a o) (k : ∀ b u, (b = a ∨ H b = some (.own a)) → h.get? b = some u → h'.get? b = some u)
    (ho : ∀ b, H b = some (.own a) → H' b = some (.own a)) (ht : ∀ b xs, H b = some (.tup xs) → H' b = some (.tup xs)) : ObjOk P w H' h' a o := by
  induction o with
  | lst xs => obtain ⟨z, its, n, r, e⟩ := x; exact ⟨z, its, n, r, k _ _ (.inl rfl) e⟩
  | tup xs => obtain ⟨z, its, r, ob, e, c⟩ := x; exact ⟨z, its, r, ob, k _ _ (.inl rfl) e, c⟩
  | dK kvs => obtain ⟨z, y, vs, r, ob, es, ep, e, c⟩ := x; exact ⟨z, y, vs, r, ob, es, ep, k _ _ (.inl rfl) e, c⟩
  | dT kvs =>
    obtain ⟨z, y, xs, r, ob, es, ep, e, c⟩ := x
    exact ⟨z, y, xs, Paired.mapP r fun p q z => ⟨z.1, ht _ _ z.2.1, z.2.2⟩, ob, es, ep, k _ _ (.inl rfl) e, c⟩
  | set S n => obtain ⟨ob, es, ep, t, e, c⟩ := x; exact ⟨ob, es, ep, t, k _ _ (.inl rfl) e, c⟩
  | ins C dx fs =>
    obtain ⟨d, z, ne, e, mA, ⟨od, es, ep, e2, c⟩, r⟩ := x
    exact ⟨ho _ d, z, ne, k _ _ (.inl rfl) e, mA, ⟨od, es, ep, k _ _ (.inr d) e2, c⟩, r⟩
  | own y => obtain ⟨ob, e⟩ := x; exact ⟨ob, k _ _ (.inl rfl) e⟩
  | xd fs => obtain ⟨mA, ⟨od, es, ep, e, c⟩, r⟩ := x; exact ⟨mA, ⟨od, es, ep, k _ _ (.inl rfl) e, c⟩, r⟩
  | rng lo hi => obtain ⟨t, u, v, e⟩ := x; exact ⟨t, u, v, k _ _ (.inl rfl) e⟩
  | frz ob u ih => obtain ⟨e, q⟩ := x; exact ⟨k _ _ (.inl rfl) e, ih q⟩
  | tbl ps =>
    have e : h.get? a = some { cls := .none, data := .fields ps } := x
    show h'.get? a = some { cls := .none, data := .fields ps }
    exact k a _ (.inl rfl) e
  | met f y =>
    have e : h.get? a = some (PySem.W.methodObj (.ref f) (.ref y)) := x
    show h'.get? a = some (PySem.W.methodObj (.ref f) (.ref y))
    exact k a _ (.inl rfl) e
  | ext φ => obtain ⟨p, ⟨o, e⟩, st⟩ := x; exact ⟨st _ _ p fun o q => k _ _ (.inl rfl) q, ⟨o, k _ _ (.inl rfl) e⟩, st⟩
theorem HOk.lt (x : HOk P w H h) (e : H a = some o) : a < h.objs.size := (x a o e).lt
theorem HOk.fresh (x : HOk P w H h) (e : h.objs.size ≤ a) : H a = none := by
  cases q : H a with
  | none => rfl
  | some u => exact absurd (Nat.lt_of_lt_of_le (x.lt q) e) (Nat.lt_irrefl _)
theorem HOk.kept (x : HOk P w H h) (k : ∀ b u, h.get? b = some u → h'.get? b = some u) : HOk P w H h' := fun a o e =>
  (x a o e).stay (fun b u _ q => k b u q) (fun _ q => q) fun _ _ q => q
theorem HOk.laid (x : HOk P w H h) (k : ∀ b u, h.get? b = some u → h'.get? b = some u) (hp : h.objs.size ≤ a) (new : ObjOk P w (upd H a o) h' a o) : HOk P w (upd H a o) h' := fun b u e => by
  have hn := x.fresh hp
  by_cases hb : b = a
  · subst hb; rw [upd_same] at e; cases e; exact new
  · rw [upd_ne hb] at e
    exact (x b u e).stay (fun c v _ q => k c v q) (fun c q => by rw [upd_ne (ne_of_none q hn)]; exact q) fun c xs q => by rw [upd_ne (ne_of_none q hn)]; exact q
end
def Rd (H : Hp) (a : Addr) (u : HO) : Prop := H a = some u ∨ ∃ o, H a = some (.frz o u)
theorem Rd.ok {P : Program} {w : World} {H : Hp} {h : Heap} {a : Addr} {u : HO} (r : Rd H a u) (x : HOk P w H h) : ObjOk P w H h a u := by
  rcases r with r | ⟨o, r⟩
  · exact x a u r
  · obtain ⟨_, q⟩ := x a _ r
    exact q
def Mut : Option HO → Prop
  | some (.lst _) => True
  | some (.dK _) => True
  | some (.dT _) => True
  | some (.set _ _) => True
  | some (.ins _ _ _) => True
  | some (.ext _) => True
  | _ => False
section
variable {P : Program} {w : World} {H : Hp} {h h' : Heap} {x e : Addr} {o' : HO}
theorem HOk.write (ok : HOk P w H h) (mu : Mut (H x)) (he : e = x ∨ H e = some (.own x)) (k : ∀ b u, b ≠ e → h.get? b = some u → h'.get? b = some u) (heo : ∃ u, h'.get? e = some u)
    (new : ObjOk P w (upd H x o') h' x o') : HOk P w (upd H x o') h' := fun b u q => by
  have nown : ∀ c y, H c = some (.own y) → c ≠ x := fun c y r z => by subst z; rw [r] at mu; exact mu
  have ntup : ∀ c xs, H c = some (.tup xs) → c ≠ x := fun c xs r z => by subst z; rw [r] at mu; exact mu
  by_cases hb : b = x
  · subst hb; rw [upd_same] at q; cases q; exact new
  · rw [upd_ne hb] at q
    by_cases hbe : b = e
    · have q' : H b = some (.own x) := by
        rcases he with z | z
        · exact absurd (hbe.trans z) hb
        · rw [hbe]; exact z
      rw [q] at q'; cases q'
      obtain ⟨v, hv⟩ := heo
      exact ⟨v, by rw [hbe]; exact hv⟩
    · refine (ok b u q).stay (fun c v hc r => k c v ?_ r) (fun c r => by rw [upd_ne (nown c b r)]; exact r) fun c xs r => by rw [upd_ne (ntup c xs r)]; exact r
      rcases hc with rfl | hc
      · exact hbe
      · rintro rfl
        rcases he with z | z
        · exact nown c b hc z
        · rw [hc] at z; cases z; exact hb rfl
end
structure Un (fs ex : List Addr) (H H' : Hp) (h h' : Heap) : Prop where
  keep : ∀ b o, h.get? b = some o → H b = none → b ∉ fs → b ∉ ex → h'.get? b = some o
  slot : ∀ b o, h.get? b = some o → H b = none → b ∈ fs → b ∉ ex → ∃ sl, h'.get? b = some { o with slots := sl }
  free : ∀ b o, h.get? b = some o → H b = none → b ∉ ex → H' b = none
  there : ∀ b o, h.get? b = some o → b ∉ ex → ∃ o', h'.get? b = some o'
  tups : ∀ b xs, H b = some (.tup xs) → H' b = some (.tup xs)
  frzs : ∀ b o u, H b = some (.frz o u) → H' b = some (.frz o u)
  tbls : ∀ b ps, H b = some (.tbl ps) → ∃ more, H' b = some (.tbl (ps ++ more))
section
variable {fs fs' ex ex' : List Addr} {H H1 H2 : Hp} {h h1 h2 h' : Heap} {a x e : Addr} {o : HO}
theorem Un.any (u : Un fs ex H H1 h h1) {b : Addr} {ob : Obj} (q : h.get? b = some ob) (n : H b = none) (hx : b ∉ ex) : ∃ sl, h1.get? b = some { ob with slots := sl } := by
  by_cases hb : b ∈ fs
  · exact u.slot b ob q n hb hx
  · exact ⟨ob.slots, u.keep b ob q n hb hx⟩
theorem Un.trans (a : Un fs ex H H1 h h1) (b : Un fs ex H1 H2 h1 h2) : Un fs ex H H2 h h2 where
  keep := fun c ob q n hc hx => b.keep c ob (a.keep c ob q n hc hx) (a.free c ob q n hx) hc hx
  slot := fun c ob q n hc hx => by
    obtain ⟨sl, e1⟩ := a.slot c ob q n hc hx
    obtain ⟨sl', e2⟩ := b.slot c _ e1 (a.free c ob q n hx) hc hx
    exact ⟨sl', e2⟩
  free := fun c ob q n hx => by
    obtain ⟨o', e1⟩ := a.there c ob q hx
    exact b.free c o' e1 (a.free c ob q n hx) hx
  there := fun c ob q hx => by
    obtain ⟨o', e1⟩ := a.there c ob q hx
    exact b.there c o' e1 hx
  tups := fun c xs q => b.tups c xs (a.tups c xs q)
  frzs := fun c ob xs q => b.frzs c ob xs (a.frzs c ob xs q)
  tbls := fun c ps q => by
    obtain ⟨m1, e1⟩ := a.tbls c ps q
    obtain ⟨m2, e2⟩ := b.tbls c _ e1
    exact ⟨m1 ++ m2, by rw [e2, Array.append_assoc]⟩
theorem Un.kept (k : ∀ b u, h.get? b = some u → h'.get? b = some u) : Un fs ex H H h h' :=
  ⟨fun b ob q _ _ _ => k b ob q, fun b ob q _ _ _ => ⟨ob.slots, k b ob q⟩, fun _ _ _ n _ => n, fun b ob q _ => ⟨ob, k b ob q⟩, fun _ _ q => q, fun _ _ _ q => q, fun _ ps q => ⟨#[], by rw [q]; simp⟩⟩
theorem Un.refl : Un fs ex H H h h := Un.kept fun _ _ q => q
theorem Un.laid (k : ∀ b u, h.get? b = some u → h'.get? b = some u) (hp : h.objs.size ≤ a) (hn : H a = none) : Un fs ex H (upd H a o) h h' where
  keep := fun b u q _ _ _ => k b u q
  slot := fun b u q _ _ _ => ⟨u.slots, k b u q⟩
  free := fun b u q n _ => by rw [upd_ne (Nat.ne_of_lt (Nat.lt_of_lt_of_le (Heap.lt_size q) hp))]; exact n
  there := fun b u q _ => ⟨u, k b u q⟩
  tups := fun b xs q => by rw [upd_ne (ne_of_none q hn)]; exact q
  frzs := fun b u xs q => by rw [upd_ne (ne_of_none q hn)]; exact q
  tbls := fun b ps q => ⟨#[], by rw [upd_ne (ne_of_none q hn), q]; simp⟩
theorem Un.write (mu : Mut (H x)) (he : e = x ∨ H e = some (.own x)) (k : ∀ b u, b ≠ e → h.get? b = some u → h'.get? b = some u) (heo : ∃ u, h'.get? e = some u) : Un fs ex H (upd H x o) h h' := by
  have hx : ∀ b, H b = none → b ≠ x := fun b n z => by subst z; rw [n] at mu; exact mu
  have hb : ∀ b, H b = none → b ≠ e := fun b n z => by
    subst z
    rcases he with r | r
    · exact hx b n r
    · rw [n] at r; cases r
  have hm : ∀ b u, H b = some u → ¬ Mut (some u) → b ≠ x := fun b u q nm z => by subst z; rw [q] at mu; exact nm mu
  refine ⟨fun b u q n _ _ => k b u (hb b n) q, fun b u q n _ _ => ⟨u.slots, k b u (hb b n) q⟩, fun b u q n _ => by rw [upd_ne (hx b n)]; exact n, fun b u q _ => ?_,
    fun b xs q => by rw [upd_ne (hm b _ q fun z => z)]; exact q, fun b u xs q => by rw [upd_ne (hm b _ q fun z => z)]; exact q, fun b ps q => ⟨#[], by rw [upd_ne (hm b _ q fun z => z), q]; simp⟩⟩
  by_cases hbe : b = e
  · subst hbe; exact heo
  · exact ⟨u, k b u hbe q⟩
theorem Un.mono (u : Un fs ex H H1 h h1) (hs : ∀ b ∈ fs, b ∈ fs') (hx : ∀ b ∈ ex, b ∈ ex') : Un fs' ex' H H1 h h1 :=
  ⟨fun b ob q n hb he => u.keep b ob q n (fun z => hb (hs b z)) fun z => he (hx b z), fun _ _ q n _ he => u.any q n fun z => he (hx _ z), fun b ob q n he => u.free b ob q n fun z => he (hx b z), fun b ob q he => u.there b ob q fun z => he (hx b z), u.tups, u.frzs, u.tbls⟩
end
def trk (h : Heap) (H : Hp) : List Addr := (List.range h.objs.size).filter fun a => (H a).isSome
def hidT (h : Heap) (H : Hp) : Heap := PySem.W.hideAll h (trk h H)
theorem hidT_size (h : Heap) (H : Hp) : (hidT h H).objs.size = h.objs.size := PySem.W.hideAll_size _ _
theorem hidT_get {h : Heap} {H : Hp} {b : Addr} {o : Obj} (e : h.get? b = some o) (n : H b = none) : (hidT h H).get? b = some o :=
  PySem.W.hideAll_get _ e fun hm => by
    have q : (H b).isSome = true := (List.mem_filter.mp hm).2
    rw [n] at q; simp at q
theorem of_hidT {h : Heap} {H : Hp} {b : Addr} {o : Obj} (e : (hidT h H).get? b = some o) : h.get? b = some o ∧ H b = none := by
  have e' : h.get? b = some o := PySem.W.of_hideAll (trk h H) e
  refine ⟨e', ?_⟩
  cases q : H b with
  | none => rfl
  | some x =>
    have hm : b ∈ trk h H := List.mem_filter.mpr ⟨List.mem_range.mpr (Heap.lt_size e'), by simp [q]⟩
    have z : (hidT h H).get? b = none := PySem.W.hideAll_none (trk h H) hm
    rw [z] at e; cases e
def allNews (g h : Heap) (L : Addr) : List (Addr × Obj) := (List.range h.objs.size).filterMap fun a => if a = L ∨ (g.get? a).isSome = true then none else (h.get? a).map fun o => (a, o)
theorem mem_allNews {g h : Heap} {L a : Addr} {o : Obj} (h1 : a ≠ L) (h2 : g.get? a = none) (h3 : h.get? a = some o) : (a, o) ∈ allNews g h L :=
  List.mem_filterMap.mpr ⟨a, List.mem_range.mpr (Heap.lt_size h3), by simp [h1, h2, h3]⟩
theorem of_mem_allNews {g h : Heap} {L : Addr} {p : Addr × Obj} (hp : p ∈ allNews g h L) : p.1 ≠ L ∧ g.get? p.1 = none ∧ h.get? p.1 = some p.2 := by
  obtain ⟨b, _, e⟩ := List.mem_filterMap.mp hp
  split at e
  · cases e
  · rename_i hn
    cases q : h.get? b with
    | none => rw [q] at e; simp at e
    | some u =>
      rw [q] at e
      simp only [Option.map_some, Option.some.injEq] at e
      subst e
      refine ⟨fun z => hn (.inl z), ?_, q⟩
      show g.get? b = none
      cases r : g.get? b with
      | none => rfl
      | some v => exact (hn (.inr (by simp [r]))).elim
def rest (g h : Heap) (L d : Addr) : List (Addr × Obj) := (allNews g h L).filter fun p => decide (p.1 ≠ d)
theorem news_all {g h : Heap} {L : Addr} : News g L h (allNews g h L) := fun p hp => let ⟨a, b, c⟩ := of_mem_allNews hp; ⟨c, a, b⟩
end L2
namespace L2
open PySem PySem.Spec PyProof.Rows
structure Mod (K : PySem.W.Frag) (mg : Str → Option Value) (base : Heap) : Prop where
  kin : K.In base
  glob : base.Ns mainGlobals mg
  blt : ∃ mb, base.Ns builtinsNs mb ∧ ∀ x : Str, x ≠ "__name__" → mb x = bootBuiltins x
  nolimit : base.NoLimit
  sysm : ∃ mm, base.Ns sysModules mm
structure Cx where
  prog : Program
  w : World
  K : PySem.W.Frag
  mg : Str → Option Value
  base : Heap
  A : Around
  N : List Str
  s₀ : Shared
  H₀ : Hp
  env : Env
  outer : List Env
  stack : List Env
  ex : List Addr
  fn : Str → Bool
  calm : Bool
  pn : List (Addr × Obj)
  xe : Value → Shared → Prop
def frs (l : List Env) : List Addr := l.filterMap (·.frame)
abbrev Cx.fs (X : Cx) : List Addr := frs X.outer
def Vis (sc : Scope) (x : Str) : Prop := sc.names.lookup x = some .local ∨ sc.names.lookup x = some .cell ∨ sc.names.lookup x = some .free
def Loc (sc : Scope) (x : Str) : Prop := sc.names.lookup x = some .local ∨ sc.names.lookup x = some .cell
def Look (env : Env) (h : Heap) (m : Str → Option Value) (x : Str) (u : Value) : Prop :=
  (env.kindOf x = some .local ∧ m x = some u) ∨ ((env.kindOf x = some .cell ∨ env.kindOf x = some .free) ∧ ∃ c, env.cells.lookup x = some c ∧ h.IsCell c (some u))
structure Cx.Ok (X : Cx) : Prop where
  mod : Mod X.K X.mg X.base
  kind : X.env.scope.kind = .function
  glob : X.env.globals = mainGlobals
  blt : X.env.builtins = builtinsNs
  above : X.s₀.heap.objs.size ≤ X.env.locals
  inj : ∀ x y c, X.env.cells.lookup x = some c → X.env.cells.lookup y = some c → x = y
  has : ∀ x, (X.env.kindOf x = some .cell ∨ X.env.kindOf x = some .free) → ∃ c, X.env.cells.lookup x = some c
  cab : ∀ x c, X.fn x = true → X.env.cells.lookup x = some c → X.s₀.heap.objs.size ≤ c
  hd : X.calm = true → X.A.handled = none
  frames : X.A.frames = some X.stack
  stk : X.stack = X.outer ∨ (X.stack = X.env :: X.outer ∧ X.env.frame = some X.env.locals)
  exf : ∀ b ∈ X.ex, b ≠ X.env.locals ∧ ∀ x c, X.env.cells.lookup x = some c → c ≠ b
  bs : ∀ b o, X.base.get? b = some o → X.s₀.heap.get? b = some o ∧ X.H₀ b = none
  bsz : X.base.objs.size ≤ X.s₀.heap.objs.size
  noex : ∀ b o, X.base.get? b = some o → b ∉ X.ex
  exfs : ∀ b ∈ X.ex, b ∉ X.fs
  funs : X.s₀.heap.FunFrames X.base X.outer
  frf : ∀ b ∈ X.fs, X.H₀ b = none
structure Inv (X : Cx) (pins : List (Addr × Obj)) (σ : List (Option V)) (H : Hp) (s : Shared) : Prop where
  ok : X.Ok
  os : s.os = X.s₀.os
  bare : AllBare s.gens
  base : Un X.fs X.ex X.H₀ H X.s₀.heap s.heap
  loc : ∃ m, s.heap.Ns X.env.locals m ∧ ∀ (i : Nat) (x : Str) (v : V), X.N[i]? = some x → σ[i]? = some (some v) → Vis X.env.scope x → ∃ u, RelV v u ∧ Look X.env s.heap m x u
  cell : ∀ x c, X.env.cells.lookup x = some c → ∃ v, s.heap.IsCell c v
  free : H X.env.locals = none
  freeC : ∀ x c, X.env.cells.lookup x = some c → H c = none
  pin : ∀ p ∈ X.pn ++ pins, s.heap.get? p.1 = some p.2 ∧ H p.1 = none ∧ p.1 ≠ X.env.locals ∧ p.1 ∉ X.fs ∧ ∀ v, p.2.data ≠ .cell v
  hok : HOk X.prog X.w H s.heap
  len : σ.length = X.N.length
section
variable {X : Cx} {pins : List (Addr × Obj)} {σ : List (Option V)} {H H' : Hp} {s : Shared} {h' : Heap}
theorem Cx.Ok.nofr (ok : X.Ok) {b : Addr} {o : Obj} (e : X.base.get? b = some o) : b ∉ X.fs := fun hb => by
  have := (ok.funs.mem hb).1
  rw [e] at this; cases this
theorem Inv.bs (I : Inv X pins σ H s) : ∀ b o, X.base.get? b = some o → s.heap.get? b = some o ∧ H b = none := fun b o e =>
  ⟨I.base.keep b o (I.ok.bs b o e).1 (I.ok.bs b o e).2 (I.ok.nofr e) (I.ok.noex b o e), I.base.free b o (I.ok.bs b o e).1 (I.ok.bs b o e).2 (I.ok.noex b o e)⟩
theorem Inv.bk (I : Inv X pins σ H s) : ∀ b o, X.base.get? b = some o → s.heap.get? b = some o := fun b o e => (I.bs b o e).1
theorem Inv.mod (I : Inv X pins σ H s) : Mod X.K X.mg X.base := I.ok.mod
theorem Inv.kIn (I : Inv X pins σ H s) : X.K.In s.heap := I.ok.mod.kin.keeps I.bk
theorem Inv.fr (I : Inv X pins σ H s) : ∃ m, Fr X.base X.env.locals s.heap m :=
  let ⟨m, hn, _⟩ := I.loc
  ⟨m, hn, I.bk, Nat.le_trans I.ok.bsz I.ok.above⟩
theorem Inv.lt (I : Inv X pins σ H s) : X.env.locals < s.heap.objs.size := let ⟨_, hn, _⟩ := I.loc; hn.lt
theorem Inv.sz (I : Inv X pins σ H s) : X.s₀.heap.objs.size ≤ s.heap.objs.size := Nat.le_trans I.ok.above (Nat.le_of_lt I.lt)
theorem Inv.nofs (I : Inv X pins σ H s) {a : Addr} (h : s.heap.objs.size ≤ a) : a ∉ X.fs := fun hb => by
  obtain ⟨_, o, ho, _⟩ := I.ok.funs.mem hb
  exact absurd (Nat.lt_of_lt_of_le (Heap.lt_size ho) (Nat.le_trans I.sz h)) (Nat.lt_irrefl _)
theorem Inv.cne (I : Inv X pins σ H s) : ∀ x c, X.env.cells.lookup x = some c → c ≠ X.env.locals := fun x c e z => by
  obtain ⟨v, o, ho, hd⟩ := I.cell x c e
  obtain ⟨m, ⟨o', es, ep, ho', hd', _⟩, _⟩ := I.loc
  rw [z, ho'] at ho; cases ho; rw [hd'] at hd; cases hd
theorem Inv.funs (I : Inv X pins σ H s) : s.heap.FunFrames X.base X.outer := by
  have all : ∀ (l : List Env), (∀ b ∈ frs l, b ∈ X.fs) → X.s₀.heap.FunFrames X.base l → s.heap.FunFrames X.base l := by
    intro l
    induction l with
    | nil => intro _ _; trivial
    | cons env r ih =>
      intro hs hl
      obtain ⟨hk, ⟨L, o, hf, hn, ho, hd⟩, hr⟩ := hl
      have hL : L ∈ X.fs := hs L (by unfold frs; rw [List.filterMap_cons, hf]; exact List.mem_cons_self)
      obtain ⟨sl, e⟩ := I.base.slot L o ho (I.ok.frf L hL) hL fun z => I.ok.exfs L z hL
      exact ⟨hk, ⟨L, _, hf, hn, e, hd⟩, ih (fun b hb => hs b (by unfold frs; rw [List.filterMap_cons, hf]; exact List.mem_cons_of_mem _ hb)) hr⟩
  exact all X.outer (fun _ hb => hb) I.ok.funs
theorem Inv.stack (I : Inv X pins σ H s) : s.heap.FunFrames X.base X.stack := by
  rcases I.ok.stk with e | ⟨e, hf⟩
  · rw [e]; exact I.funs
  · rw [e]
    obtain ⟨m, hn, _⟩ := I.loc
    refine .cons (by rw [I.ok.kind]; decide) hf hn ?_ I.funs
    exact Heap.get?_none_of_le (Nat.le_trans I.ok.bsz I.ok.above)
theorem Inv.stkSub (I : Inv X pins σ H s) : ∀ b ∈ frs X.stack, b ∈ X.env.locals :: X.fs := fun b hb => by
  rcases I.ok.stk with e | ⟨e, hf⟩
  · rw [e] at hb; exact List.mem_cons_of_mem _ hb
  · rw [e] at hb
    unfold frs at hb
    rw [List.filterMap_cons, hf] at hb
    exact hb
theorem Inv.stkFree (I : Inv X pins σ H s) : ∀ b ∈ frs X.stack, H b = none := fun b hb => by
  rcases List.mem_cons.mp (I.stkSub b hb) with e | hb
  · rw [e]; exact I.free
  · obtain ⟨_, o, ho, _⟩ := I.ok.funs.mem hb
    exact I.base.free b o ho (I.ok.frf b hb) fun z => I.ok.exfs b z hb
theorem Inv.step {g' : Array GenState} {t' : Nat} {d' : Drawn} {ch : List Addr} (I : Inv X pins σ H s)
    (hch : ∀ b ∈ ch, (b ∈ X.ex ∨ X.s₀.heap.objs.size ≤ b) ∧ b ≠ X.env.locals ∧ (∀ x c, X.env.cells.lookup x = some c → c ≠ b) ∧ ∀ p ∈ X.pn ++ pins, p.1 ≠ b)
    (keep : ∀ b o, b ≠ X.env.locals → b ∉ X.fs → b ∉ ch → s.heap.get? b = some o → H b = none → h'.get? b = some o)
    (slot : ∀ b o, b ≠ X.env.locals → b ∈ X.fs → b ∉ ch → s.heap.get? b = some o → H b = none → ∃ sl, h'.get? b = some { o with slots := sl }) (free : ∀ b o, b ∉ ch → s.heap.get? b = some o → H b = none → H' b = none)
    (there : ∀ b o, b ∉ ch → s.heap.get? b = some o → ∃ o', h'.get? b = some o')
    (tups : ∀ b xs, H b = some (.tup xs) → H' b = some (.tup xs)) (frzs : ∀ b o u, H b = some (.frz o u) → H' b = some (.frz o u)) (tbls : ∀ b ps, H b = some (.tbl ps) → ∃ more, H' b = some (.tbl (ps ++ more)))
    (ns : ∀ m, s.heap.Ns X.env.locals m → h'.Ns X.env.locals m) (hok : HOk X.prog X.w H' h') (hg : AllBare g') :
    Inv X pins σ H' { s with heap := h', gens := g', drawn := d', toks := t' } := by
  have neL : ∀ b o, X.s₀.heap.get? b = some o → b ≠ X.env.locals := fun b o e => Nat.ne_of_lt (Nat.lt_of_lt_of_le (Heap.lt_size e) I.ok.above)
  have neC : ∀ b o, X.s₀.heap.get? b = some o → b ∉ X.ex → b ∉ ch := fun b o e hx hb => by
    rcases (hch b hb).1 with z | z
    · exact hx z
    · exact absurd (Nat.lt_of_lt_of_le (Heap.lt_size e) z) (Nat.lt_irrefl _)
  have cellK : ∀ x c, X.env.cells.lookup x = some c → ∀ v, s.heap.IsCell c v → h'.IsCell c v := fun x c e v ⟨o, ho, hd⟩ => by
    have nch : c ∉ ch := fun z => (hch c z).2.2.1 x c e rfl
    by_cases hc : c ∈ X.fs
    · obtain ⟨sl, q⟩ := slot c o (I.cne x c e) hc nch ho (I.freeC x c e)
      exact ⟨_, q, hd⟩
    · exact ⟨o, keep c o (I.cne x c e) hc nch ho (I.freeC x c e), hd⟩
  refine ⟨I.ok, I.os, hg, ⟨fun b o e n hb hx => ?_, fun b o e n hb hx => ?_, fun b o e n hx => ?_, fun b o e hx => ?_, fun b xs e => tups b xs (I.base.tups b xs e), fun b o xs e => frzs b o xs (I.base.frzs b o xs e), fun b ps e => ?_⟩, ?_, fun x c e => ?_, ?_, fun x c e => ?_, fun p hp => ?_, hok, I.len⟩
  · exact keep b o (neL b o e) hb (neC b o e hx) (I.base.keep b o e n hb hx) (I.base.free b o e n hx)
  · obtain ⟨sl, e1⟩ := I.base.slot b o e n hb hx
    obtain ⟨sl', e2⟩ := slot b _ (neL b o e) hb (neC b o e hx) e1 (I.base.free b o e n hx)
    exact ⟨sl', e2⟩
  · obtain ⟨o', e1⟩ := I.base.there b o e hx
    exact free b o' (neC b o e hx) e1 (I.base.free b o e n hx)
  · obtain ⟨o', e1⟩ := I.base.there b o e hx
    exact there b o' (neC b o e hx) e1
  · obtain ⟨m1, e1⟩ := I.base.tbls b ps e
    obtain ⟨m2, e2⟩ := tbls b _ e1
    exact ⟨m1 ++ m2, by rw [e2, Array.append_assoc]⟩
  · obtain ⟨m, hn, hl⟩ := I.loc
    refine ⟨m, ns m hn, fun i x v e1 e2 e3 => ?_⟩
    obtain ⟨u, r, l⟩ := hl i x v e1 e2 e3
    refine ⟨u, r, ?_⟩
    rcases l with l | ⟨k, c, e, z⟩
    · exact .inl l
    · exact .inr ⟨k, c, e, cellK x c e _ z⟩
  · obtain ⟨v, z⟩ := I.cell x c e
    exact ⟨v, cellK x c e v z⟩
  · obtain ⟨m, ⟨o, _, _, ho, _⟩, _⟩ := I.loc
    exact free _ o (fun z => (hch _ z).2.1 rfl) ho I.free
  · obtain ⟨v, o, ho, hd⟩ := I.cell x c e
    exact free c o (fun z => (hch c z).2.2.1 x c e rfl) ho (I.freeC x c e)
  · obtain ⟨e, n, ne, nf, d⟩ := I.pin p hp
    have nch : p.1 ∉ ch := fun z => (hch p.1 z).2.2.2 p hp rfl
    exact ⟨keep p.1 p.2 ne nf nch e n, free p.1 p.2 nch e n, ne, nf, d⟩
theorem Inv.un {t' : Nat} (I : Inv X pins σ H s) (u : Un X.fs [] H H' s.heap h') (hok : HOk X.prog X.w H' h') : Inv X pins σ H' { s with heap := h', toks := t' } := by
  obtain ⟨m, ⟨o, es, ep, ho, r⟩, _⟩ := id I.loc
  obtain ⟨sl, hL⟩ := u.any ho I.free (by simp)
  exact I.step (g' := s.gens) (d' := s.drawn) (ch := []) (fun _ z => nomatch z) (fun b o _ hb _ e n => u.keep b o e n hb (by simp)) (fun b o _ hb _ e n => u.slot b o e n hb (by simp)) (fun b o _ e n => u.free b o e n (by simp)) (fun b o _ e => u.there b o e (by simp)) u.tups u.frzs u.tbls (fun m' hm => by
    obtain ⟨o', es', ep', ho', r'⟩ := hm
    rw [ho] at ho'; cases ho'
    exact ⟨_, es', ep', hL, r'⟩) hok I.bare
theorem Inv.call {g' : Array GenState} {t' : Nat} {d' : Drawn} {ch : List Addr} (I : Inv X pins σ H s) (u : Un (frs X.stack) ch H H' s.heap h') (hok : HOk X.prog X.w H' h') (hg : AllBare g')
    (hch : ∀ b ∈ ch, (b ∈ X.ex ∨ X.s₀.heap.objs.size ≤ b) ∧ b ≠ X.env.locals ∧ (∀ x c, X.env.cells.lookup x = some c → c ≠ b) ∧ ∀ p ∈ X.pn ++ pins, p.1 ≠ b) :
    Inv X pins σ H' { s with heap := h', gens := g', drawn := d', toks := t' } := by
  obtain ⟨m, ⟨o, es, ep, ho, r⟩, _⟩ := id I.loc
  obtain ⟨sl, hL⟩ := u.any ho I.free fun z => (hch _ z).2.1 rfl
  exact I.step (ch := ch) hch (fun b o hL hb hc e n => u.keep b o e n (fun z => (List.mem_cons.mp (I.stkSub b z)).elim hL hb) hc) (fun b o _ _ hc e n => u.any e n hc) (fun b o hc e n => u.free b o e n hc) (fun b o hc e => u.there b o e hc) u.tups u.frzs u.tbls (fun m' hm => by
    obtain ⟨o', es', ep', ho', r'⟩ := hm
    rw [ho] at ho'; cases ho'
    exact ⟨_, es', ep', hL, r'⟩) hok hg
theorem Inv.turned {t' : Nat} {it : Addr} (I : Inv X pins σ H s) (k : ∀ b o, b ≠ it → s.heap.get? b = some o → h'.get? b = some o) (hn : H it = none) (hL : it ≠ X.env.locals)
    (h1 : it ∈ X.ex ∨ X.s₀.heap.objs.size ≤ it) (h2 : ∀ x c, X.env.cells.lookup x = some c → c ≠ it) (h3 : ∀ p ∈ X.pn ++ pins, p.1 ≠ it) : Inv X pins σ H { s with heap := h', toks := t' } := by
  have nit : ∀ b u, H b = some u → b ≠ it := fun b u e z => by rw [z, hn] at e; cases e
  refine I.step (g' := s.gens) (d' := s.drawn) (ch := [it]) (fun b hb => ?_) (fun b o _ _ hc e _ => k b o (fun z => hc (by simp [z])) e) (fun b o _ _ hc e _ => ⟨o.slots, k b o (fun z => hc (by simp [z])) e⟩) (fun _ _ _ _ n => n)
    (fun b o hc e => ⟨o, k b o (fun z => hc (by simp [z])) e⟩) (fun _ _ e => e) (fun _ _ _ e => e) (fun b ps e => ⟨#[], by rw [e]; simp⟩) (fun m hm => ?_) (fun b u e => ?_) I.bare
  · have e : b = it := by simpa using hb
    subst e
    exact ⟨h1, hL, h2, h3⟩
  · obtain ⟨o, es, ep, ho, r⟩ := hm
    exact ⟨o, es, ep, k _ o (Ne.symm hL) ho, r⟩
  · refine (I.hok b u e).stay (fun c v hc q => k c v ?_ q) (fun _ q => q) fun _ _ q => q
    rcases hc with z | z
    · rw [z]; exact nit b u e
    · exact nit c _ z
theorem Inv.tok (I : Inv X pins σ H s) (t : Nat) : Inv X pins σ H { s with toks := t } := I.un (h' := s.heap) (t' := t) Un.refl I.hok
theorem Inv.kept {t' : Nat} (I : Inv X pins σ H s) (k : ∀ b u, s.heap.get? b = some u → h'.get? b = some u) : Inv X pins σ H { s with heap := h', toks := t' } := I.un (Un.kept k) (I.hok.kept k)
theorem Inv.laid {a : Addr} {o : HO} {t' : Nat} (I : Inv X pins σ H s) (k : ∀ b u, s.heap.get? b = some u → h'.get? b = some u) (hp : s.heap.objs.size ≤ a) (new : ObjOk X.prog X.w (upd H a o) h' a o) :
    Inv X pins σ (upd H a o) { s with heap := h', toks := t' } := I.un (Un.laid k hp (I.hok.fresh hp)) (I.hok.laid k hp new)
theorem Inv.write {x e : Addr} {o : HO} {t' : Nat} (I : Inv X pins σ H s) (mu : Mut (H x)) (he : e = x ∨ H e = some (.own x)) (k : ∀ b u, b ≠ e → s.heap.get? b = some u → h'.get? b = some u) (heo : ∃ u, h'.get? e = some u)
    (new : ObjOk X.prog X.w (upd H x o) h' x o) : Inv X pins σ (upd H x o) { s with heap := h', toks := t' } := I.un (Un.write mu he k heo) (I.hok.write mu he k heo new)
theorem Inv.pins_of {pins' : List (Addr × Obj)} (I : Inv X pins σ H s) (h : ∀ p ∈ pins', s.heap.get? p.1 = some p.2 ∧ H p.1 = none ∧ p.1 ≠ X.env.locals ∧ p.1 ∉ X.fs ∧ ∀ v, p.2.data ≠ .cell v) : Inv X pins' σ H s :=
  ⟨I.ok, I.os, I.bare, I.base, I.loc, I.cell, I.free, I.freeC, fun p hp => (List.mem_append.mp hp).elim (fun z => I.pin p (List.mem_append_left _ z)) (h p), I.hok, I.len⟩
theorem nodup_ix {N : List Str} (hN : N.Nodup) {i j : Nat} {x : Str} (a : N[i]? = some x) (b : N[j]? = some x) : i = j := by
  obtain ⟨h1, e1⟩ := List.getElem?_eq_some_iff.mp a
  obtain ⟨h2, e2⟩ := List.getElem?_eq_some_iff.mp b
  exact (List.getElem_inj hN).mp (e1.trans e2.symm)
theorem store_ok2 {M : Model} {A : Around} {E : Value → Shared → Prop} {i : Nat} {x : Str} {v : V} {u : Value} {Q : Unit → Shared → Prop} (I : Inv X pins σ H s) (hN : X.N.Nodup) (hi : X.N[i]? = some x) (hx : Loc X.env.scope x) (r : RelV v u)
    (h : ∀ s', Inv X pins (σ.set i (some v)) H s' → (∃ a, Heap.SameBut a s.heap s'.heap ∧ (a = X.env.locals ∨ X.env.cells.lookup x = some a)) → Q () s') (hf : X.fn x = true ∨ X.env.scope.names.lookup x = some .local := by first | exact .inl rfl | exact .inr rfl | assumption) : wpAny M A (storeName X.env x u) Q E s := by
  obtain ⟨m, hn, hl⟩ := id I.loc
  have hcls : (X.env.scope.kind == .class || (X.env.scope.kind == .module && X.env.locals != X.env.globals)) = false := by rw [I.ok.kind]; rfl
  have hiσ : i < σ.length := by rw [I.len]; exact (List.getElem?_eq_some_iff.mp hi).1
  have cne := I.cne
  have tracked : ∀ {a : Addr} {h' : Heap}, (∃ o, s.heap.get? a = some o ∧ H a = none) → Heap.SameBut a s.heap h' → HOk X.prog X.w H h' := fun {a h'} ha hs b ob e => by
    obtain ⟨_, _, hfree⟩ := ha
    refine (I.hok b ob e).stay (fun c w' hc q => (hs.2 c ?_).trans q) (fun _ q => q) fun _ _ q => q
    rintro rfl
    rcases hc with rfl | hc
    · rw [hfree] at e; cases e
    · rw [hfree] at hc; cases hc
  rcases hx with hk | hk
  · refine wpAny_storeName_local hk hn (fun h' hn' hs => ?_) hcls
    obtain ⟨oL, _, _, hoL, _⟩ := id hn
    refine h _ ⟨I.ok, I.os, I.bare, ⟨fun b o e n hb hx => ?_, fun b o e n hb hx => ?_, I.base.free, fun b o e hx => ?_, I.base.tups, I.base.frzs, I.base.tbls⟩, ⟨_, hn', fun j y v' e1 e2 e3 => ?_⟩, fun y c e => ?_, I.free, I.freeC, fun p hp => ?_, tracked ⟨oL, hoL, I.free⟩ hs, by simpa using I.len⟩ ⟨_, hs, .inl rfl⟩
    · exact (hs.2 b (Nat.ne_of_lt (Nat.lt_of_lt_of_le (Heap.lt_size e) I.ok.above))).trans (I.base.keep b o e n hb hx)
    · obtain ⟨sl, e1⟩ := I.base.slot b o e n hb hx
      exact ⟨sl, (hs.2 b (Nat.ne_of_lt (Nat.lt_of_lt_of_le (Heap.lt_size e) I.ok.above))).trans e1⟩
    · obtain ⟨o', e1⟩ := I.base.there b o e hx
      exact ⟨o', (hs.2 b (Nat.ne_of_lt (Nat.lt_of_lt_of_le (Heap.lt_size e) I.ok.above))).trans e1⟩
    · by_cases hj : j = i
      · subst hj
        rw [hi] at e1; cases e1
        rw [List.getElem?_set_self hiσ] at e2
        cases e2
        exact ⟨u, r, .inl ⟨hk, by simp⟩⟩
      · rw [List.getElem?_set_ne (Ne.symm hj)] at e2
        obtain ⟨u', r', q⟩ := hl j y v' e1 e2 e3
        refine ⟨u', r', ?_⟩
        rcases q with ⟨k, e⟩ | ⟨k, c, e, z⟩
        · refine .inl ⟨k, ?_⟩
          have : y ≠ x := fun e => hj (nodup_ix hN e1 (e ▸ hi))
          simp [this, e]
        · exact .inr ⟨k, c, e, z.sameBut hs (cne y c e)⟩
    · obtain ⟨w', z⟩ := I.cell y c e
      exact ⟨w', z.sameBut hs (cne y c e)⟩
    · obtain ⟨e, n, ne, nf, d⟩ := I.pin p hp
      exact ⟨(hs.2 p.1 ne).trans e, n, ne, nf, d⟩
  · have hfn : X.fn x = true := by
      rcases hf with z | z
      · exact z
      · rw [z] at hk; cases hk
    obtain ⟨c, hc⟩ := I.ok.has x (.inl hk)
    obtain ⟨w', z⟩ := I.cell x c hc
    refine wpAny_storeName_cell I.ok.kind hk hc z (fun h' hc' hs => ?_)
    obtain ⟨oc, hoc, hocd⟩ := id z
    refine h { s with heap := h' } ⟨I.ok, I.os, I.bare, ⟨fun b o e n hb hx => ?_, fun b o e n hb hx => ?_, I.base.free, fun b o e hx => ?_, I.base.tups, I.base.frzs, I.base.tbls⟩, ⟨m, hn.sameBut hs (Ne.symm (cne x c hc)), fun j y v' e1 e2 e3 => ?_⟩, fun y c' e => ?_, I.free, I.freeC, fun p hp => ?_, tracked ⟨oc, hoc, I.freeC x c hc⟩ hs, by simpa using I.len⟩ ⟨c, hs, .inr hc⟩
    · exact (hs.2 b (Nat.ne_of_lt (Nat.lt_of_lt_of_le (Heap.lt_size e) (I.ok.cab x c hfn hc)))).trans (I.base.keep b o e n hb hx)
    · obtain ⟨sl, e1⟩ := I.base.slot b o e n hb hx
      exact ⟨sl, (hs.2 b (Nat.ne_of_lt (Nat.lt_of_lt_of_le (Heap.lt_size e) (I.ok.cab x c hfn hc)))).trans e1⟩
    · obtain ⟨o', e1⟩ := I.base.there b o e hx
      exact ⟨o', (hs.2 b (Nat.ne_of_lt (Nat.lt_of_lt_of_le (Heap.lt_size e) (I.ok.cab x c hfn hc)))).trans e1⟩
    · by_cases hj : j = i
      · subst hj
        rw [hi] at e1; cases e1
        rw [List.getElem?_set_self hiσ] at e2
        cases e2
        exact ⟨u, r, .inr ⟨.inl hk, c, hc, hc'⟩⟩
      · rw [List.getElem?_set_ne (Ne.symm hj)] at e2
        obtain ⟨u', r', q⟩ := hl j y v' e1 e2 e3
        refine ⟨u', r', ?_⟩
        rcases q with q | ⟨k, c', e, z'⟩
        · exact .inl q
        · refine .inr ⟨k, c', e, z'.sameBut hs ?_⟩
          rintro rfl
          exact hj (nodup_ix hN e1 (I.ok.inj _ _ _ e hc ▸ hi))
    · by_cases hcc : c' = c
      · subst hcc; exact ⟨_, hc'⟩
      · obtain ⟨w2, z2⟩ := I.cell y c' e
        exact ⟨w2, z2.sameBut hs hcc⟩
    · obtain ⟨e, n, ne, nf, d⟩ := I.pin p hp
      refine ⟨(hs.2 p.1 ?_).trans e, n, ne, nf, d⟩
      intro q
      rw [q, hoc] at e
      have q' : oc = p.2 := Option.some.inj e
      exact d w' (by rw [← q']; exact hocd)
theorem store_ok {M : Model} {A : Around} {E : Value → Shared → Prop} {i : Nat} {x : Str} {v : V} {u : Value} {Q : Unit → Shared → Prop} (I : Inv X pins σ H s) (hN : X.N.Nodup) (hi : X.N[i]? = some x) (hx : Loc X.env.scope x) (r : RelV v u)
    (h : ∀ s', Inv X pins (σ.set i (some v)) H s' → Q () s') (hf : X.fn x = true ∨ X.env.scope.names.lookup x = some .local := by first | exact .inl rfl | exact .inr rfl | assumption) : wpAny M A (storeName X.env x u) Q E s :=
  store_ok2 I hN hi hx r (fun s' I' _ => h s' I') hf
theorem Inv.call' {s' : Shared} {ch : List Addr} (I : Inv X pins σ H s) (ho : s'.os = s.os) (u : Un (frs X.stack) ch H H' s.heap s'.heap) (hok : HOk X.prog X.w H' s'.heap) (hg : AllBare s'.gens)
    (hch : ∀ b ∈ ch, (b ∈ X.ex ∨ X.s₀.heap.objs.size ≤ b) ∧ b ≠ X.env.locals ∧ (∀ x c, X.env.cells.lookup x = some c → c ≠ b) ∧ ∀ p ∈ X.pn ++ pins, p.1 ≠ b) : Inv X pins σ H' s' := by
  obtain ⟨h', g', d', t', o'⟩ := s'
  have e : o' = s.os := ho
  subst e
  exact I.call (g' := g') (t' := t') (d' := d') u hok hg hch
end
abbrev XK := Value → Option Addr → Hp → Prop
abbrev St := List (Option V)
abbrev VK := V → Hp → Prop
abbrev TE := St → Hp → VK → Prop
abbrev TT := St → Hp → (Bool → Hp → Prop) → Prop
abbrev TA := St → Hp → (List V → Hp → Prop) → Prop
structure Ends where
  nx : St → Hp → Prop
  rt : VK
  bk : St → Hp → Prop := fun _ _ => False
  ct : St → Hp → Prop := fun _ _ => False
abbrev TS := Ends → St → Hp → Prop
def EP (X : Cx) (pins : List (Addr × Obj)) (σ : St) (Q : VK) (u : Value) (s' : Shared) : Prop := ∃ v H', Inv X pins σ H' s' ∧ RelV v u ∧ Q v H'
def TP (X : Cx) (pins : List (Addr × Obj)) (σ : St) (Q : Bool → Hp → Prop) (b : Bool) (s' : Shared) : Prop := ∃ H', Inv X pins σ H' s' ∧ Q b H'
def AP (X : Cx) (pins : List (Addr × Obj)) (σ : St) (Q : List V → Hp → Prop) (us : List Value) (s' : Shared) : Prop := ∃ vs H', Inv X pins σ H' s' ∧ Vals vs us ∧ Q vs H'
def SP (X : Cx) (pins : List (Addr × Obj)) (D : Ends) (f : Flow) (s' : Shared) : Prop :=
  match f with
  | .next => ∃ σ' H', Inv X pins σ' H' s' ∧ D.nx σ' H'
  | .brk => ∃ σ' H', Inv X pins σ' H' s' ∧ D.bk σ' H'
  | .cont => ∃ σ' H', Inv X pins σ' H' s' ∧ D.ct σ' H'
  | .ret u => ∃ v σ' H', Inv X pins σ' H' s' ∧ RelV v u ∧ D.rt v H'
def PE (X : Cx) (e : Expr) (t : TE) : Prop :=
  ∀ (pins : List (Addr × Obj)) (s : Shared) (σ : St) (H : Hp) (Q : VK), Inv X pins σ H s → t σ H Q → wpAny (model X.prog X.w) X.A (eval e X.env) (EP X pins σ Q) X.xe s
def PT (X : Cx) (e : Expr) (t : TT) : Prop :=
  ∀ (pins : List (Addr × Obj)) (s : Shared) (σ : St) (H : Hp) (Q : Bool → Hp → Prop), Inv X pins σ H s → t σ H Q → wpAny (model X.prog X.w) X.A (isTrue e X.env (eval e X.env)) (TP X pins σ Q) X.xe s
def PW (X : Cx) (e : Expr) (t : TT) : Prop :=
  ∀ (whole : Sem Value) (pins : List (Addr × Obj)) (s : Shared) (σ : St) (H : Hp) (Q : Bool → Hp → Prop), Inv X pins σ H s → t σ H Q → wpAny (model X.prog X.w) X.A (isTrue e X.env whole) (TP X pins σ Q) X.xe s
theorem PW.pt {X : Cx} {e : Expr} {t : TT} (h : PW X e t) : PT X e t := h _
def PA (X : Cx) (es : List Expr) (t : TA) : Prop :=
  ∀ (pos : Pos) (pins : List (Addr × Obj)) (s : Shared) (σ : St) (H : Hp) (Q : List V → Hp → Prop), Inv X pins σ H s → t σ H Q → wpAny (model X.prog X.w) X.A (spliced (backTo pos (starEach es X.env))) (AP X pins σ Q) X.xe s
def PS (X : Cx) (st : Stmt) (t : TS) : Prop :=
  ∀ (pins : List (Addr × Obj)) (s : Shared) (σ : St) (H : Hp) (D : Ends), Inv X pins σ H s → t D σ H → wpAny (model X.prog X.w) X.A (exec st X.env) (SP X pins D) X.xe s
def PSs (X : Cx) (st : List Stmt) (t : TS) : Prop :=
  ∀ (pins : List (Addr × Obj)) (s : Shared) (σ : St) (H : Hp) (D : Ends), Inv X pins σ H s → t D σ H → wpAny (model X.prog X.w) X.A (execs st X.env) (SP X pins D) X.xe s
theorem thn {α : Type} {t : Sem α} {Q Q' : α → Shared → Prop} {M : Model} {A : Around} {E : Value → Shared → Prop} {s : Shared} (h : wpAny M A t Q E s) (hQ : ∀ a s, Q a s → Q' a s) : wpAny M A t Q' E s := wpAny_mono h hQ fun _ _ x => x
end L2
namespace L2
open PySem PySem.Spec PyProof.Rows
section
variable {X : Cx}
def tVar (i : Nat) : TE := fun σ H Q => ∃ v, σ[i]? = some (some v) ∧ Q v H
def tC (v : V) : TE := fun _ H Q => Q v H
theorem pe_var {i : Nat} {x : Str} {pos : Pos} (hN : X.N[i]? = some x) (hv : Vis X.env.scope x) (hd : (x == ("__debug__" : Str)) = false := by decide) (hcd : (x == ("__classdict__" : Str)) = false := by decide) : PE X (.Name x pos) (tVar i) := by
  intro pins s σ H Q I h
  obtain ⟨v, e, h⟩ := h
  obtain ⟨m, hn, hl⟩ := I.loc
  obtain ⟨u, r, l⟩ := hl i x v hN e hv
  have fin : EP X pins σ Q u s := ⟨v, H, I, r, h⟩
  rcases l with ⟨hk, hm⟩ | ⟨hk, c, hc, hcell⟩
  · exact wpAny_Name (wpAny_loadName_local I.ok.kind hk hn hm fin) hd
  · rcases hk with hk | hk
    · exact wpAny_Name (wpAny_loadName_cell I.ok.kind hk hc hcell fin) hd
    · exact wpAny_Name (wpAny_loadName_free I.ok.kind hk hc hcell fin hcd) hd
theorem pe_int {i j pos} : PE X (.Constant (.int i) j pos) (tC (.int i)) := fun _ _ _ H _ I h => wpAny_Constant_int ⟨.int i, H, I.tok _, ⟨_, rfl⟩, h⟩
theorem pe_bl {b j pos} : PE X (.Constant (.bool b) j pos) (tC (.bl b)) := fun _ _ _ H _ I h => Constant_bool ⟨.bl b, H, I, rfl, h⟩
theorem pe_non {j pos} : PE X (.Constant .none j pos) (tC .non) := fun _ _ _ H _ I h => Constant_none ⟨.non, H, I, rfl, h⟩
theorem pe_str {x j pos} : PE X (.Constant (.str x) j pos) (tC (.str x)) := fun _ _ _ H _ I h => Calls.Constant_str ⟨.str x, H, I.tok _, ⟨_, rfl⟩, h⟩
def Gl (X : Cx) (x : Str) : Prop := X.env.kindOf x = some .globalImplicit
theorem ld_glob {E : Value → Shared → Prop} {pins : List (Addr × Obj)} {s : Shared} {σ : St} {H : Hp} {x : Str} {u : Value} {pos : Pos} {Q : Value → Shared → Prop} (I : Inv X pins σ H s) (hg : Gl X x) (hm : X.mg x = some u) (h : Q u s)
    (hd : (x == ("__debug__" : Str)) = false := by decide) : wpAny (model X.prog X.w) X.A (eval (.Name x pos) X.env) Q E s :=
  Calls.Name_function_global I.ok.kind hg (Calls.loadGlobal_global (by rw [I.ok.glob]; exact I.mod.glob.keeps I.bk) hm h) hd
theorem ld_blt {E : Value → Shared → Prop} {pins : List (Addr × Obj)} {s : Shared} {σ : St} {H : Hp} {x : Str} {u : Value} {pos : Pos} {Q : Value → Shared → Prop} (I : Inv X pins σ H s) (hg : Gl X x) (hm : X.mg x = none) (hv : bootBuiltins x = some u) (h : Q u s)
    (hn : x ≠ "__name__" := by decide) (hd : (x == ("__debug__" : Str)) = false := by decide) : wpAny (model X.prog X.w) X.A (eval (.Name x pos) X.env) Q E s := by
  obtain ⟨mb, h1, h2⟩ := I.mod.blt
  exact Calls.Name_function_global I.ok.kind hg (Calls.loadGlobal_builtin (by rw [I.ok.glob]; exact I.mod.glob.keeps I.bk) hm (by rw [I.ok.blt]; exact h1.keeps I.bk) ((h2 x hn).trans hv) h) hd
theorem pe_glob {x : Str} {v : V} {u : Value} {pos : Pos} (hg : Gl X x) (hm : X.mg x = some u) (r : RelV v u) (hd : (x == ("__debug__" : Str)) = false := by decide) : PE X (.Name x pos) (tC v) :=
  fun _ _ _ H _ I h => ld_glob I hg hm ⟨v, H, I, r, h⟩ hd
theorem pe_bltn {x : Str} {v : V} {u : Value} {pos : Pos} (hg : Gl X x) (hm : X.mg x = none) (hv : bootBuiltins x = some u) (r : RelV v u) (hn : x ≠ "__name__" := by decide) (hd : (x == ("__debug__" : Str)) = false := by decide) : PE X (.Name x pos) (tC v) :=
  fun _ _ _ H _ I h => ld_blt I hg hm hv ⟨v, H, I, r, h⟩ hn hd
variable {a b : Expr} {ta tb : TE} {pos : Pos}
def tB (t : TE) : TT := fun σ H Q => t σ H fun x H1 => ∃ c, x = .bl c ∧ Q c H1
theorem pt_val {e : Expr} {t : TE} (h : PE X e t) (he : ∀ whole, isTrue e X.env whole = (do let v ← whole; standAt e.pos; holding [v] (truthy v)) := by intro _; rfl) : PT X e (tB t) := by
  intro pins s σ H Q I hw
  refine isTrue_plain (thn (h pins s σ H _ I hw) fun v s1 ⟨x, H1, I1, r1, q1⟩ => ?_) (he _)
  obtain ⟨d, rfl, q⟩ := q1
  cases r1
  exact wpAny_truthy_bool ⟨H1, I1, q⟩
variable {tA tB' : TT} {rest : List Expr}
def tAnd (t u : TT) : TT := fun σ H Q => t σ H fun c H1 => if c = true then u σ H1 Q else Q false H1
def tOr (t u : TT) : TT := fun σ H Q => t σ H fun c H1 => if c = true then Q true H1 else u σ H1 Q
def tNot (t : TT) : TT := fun σ H Q => t σ H fun c H1 => Q (!c) H1
theorem pw_and1 (ha : PT X a tA) : PW X (.BoolOp .And [a] pos) tA := by
  intro wh pins s σ H Q I h
  refine isTrue_and (thn (ha pins s σ H Q I h) fun c s1 e => ?_)
  cases c with
  | true => exact isTrue_and_nil e
  | false => exact e
theorem pw_or1 (ha : PT X a tA) : PW X (.BoolOp .Or [a] pos) tA := by
  intro wh pins s σ H Q I h
  refine isTrue_or (thn (ha pins s σ H Q I h) fun c s1 e => ?_)
  cases c with
  | false => exact isTrue_or_nil e
  | true => exact e
theorem pw_and (ha : PT X a tA) (hb : PW X (.BoolOp .And (b :: rest) pos) tB') : PW X (.BoolOp .And (a :: b :: rest) pos) (tAnd tA tB') := by
  intro wh pins s σ H Q I h
  refine isTrue_and (thn (ha pins s σ H _ I h) fun c s1 ⟨H1, I1, q1⟩ => ?_)
  cases c with
  | true => exact hb wh pins s1 σ H1 Q I1 q1
  | false => exact ⟨H1, I1, q1⟩
theorem pw_or (ha : PT X a tA) (hb : PW X (.BoolOp .Or (b :: rest) pos) tB') : PW X (.BoolOp .Or (a :: b :: rest) pos) (tOr tA tB') := by
  intro wh pins s σ H Q I h
  refine isTrue_or (thn (ha pins s σ H _ I h) fun c s1 ⟨H1, I1, q1⟩ => ?_)
  cases c with
  | true => exact ⟨H1, I1, q1⟩
  | false => exact hb wh pins s1 σ H1 Q I1 q1
theorem pt_not (ha : PT X a tA) : PT X (.UnaryOp .Not a pos) (tNot tA) := by
  intro pins s σ H Q I h
  exact isTrue_not (ha pins s σ H (fun c H1 => Q (!c) H1) I h)
def tAndV (ta tb : TE) : TE := fun σ H Q => ta σ H fun x H1 => ∃ c, x = .bl c ∧ if c = true then tb σ H1 Q else Q (.bl false) H1
def tOrV (ta tb : TE) : TE := fun σ H Q => ta σ H fun x H1 => ∃ c, x = .bl c ∧ if c = true then Q (.bl true) H1 else tb σ H1 Q
def tNotV (ta : TE) : TE := fun σ H Q => ta σ H fun x H1 => ∃ c, x = .bl c ∧ Q (.bl (!c)) H1
theorem pe_one {op} {t : TE} (h : PE X a t) : PE X (.BoolOp op [a] pos) t := fun pins s σ H Q I hw => BoolOp_one (h pins s σ H Q I hw)
theorem pe_and (ha : PE X a ta) (hb : PE X (.BoolOp .And (b :: rest) pos) tb) : PE X (.BoolOp .And (a :: b :: rest) pos) (tAndV ta tb) := by
  intro pins s σ H Q I h
  refine BoolOp_and (thn (ha pins s σ H _ I h) fun v s1 ⟨x, H1, I1, r1, q1⟩ => ?_)
  obtain ⟨c, rfl, q1⟩ := q1
  cases r1
  refine wpAny_truthy_bool ?_
  cases c with
  | true => exact hb pins s1 σ H1 Q I1 q1
  | false => exact ⟨.bl false, H1, I1, rfl, q1⟩
theorem pe_or (ha : PE X a ta) (hb : PE X (.BoolOp .Or (b :: rest) pos) tb) : PE X (.BoolOp .Or (a :: b :: rest) pos) (tOrV ta tb) := by
  intro pins s σ H Q I h
  refine BoolOp_or (thn (ha pins s σ H _ I h) fun v s1 ⟨x, H1, I1, r1, q1⟩ => ?_)
  obtain ⟨c, rfl, q1⟩ := q1
  cases r1
  refine wpAny_truthy_bool ?_
  cases c with
  | false => exact hb pins s1 σ H1 Q I1 q1
  | true => exact ⟨.bl true, H1, I1, rfl, q1⟩
theorem pe_not (ha : PE X a ta) : PE X (.UnaryOp .Not a pos) (tNotV ta) := by
  intro pins s σ H Q I h
  refine UnaryOp_ (thn (ha pins s σ H _ I h) fun v s1 ⟨x, H1, I1, r1, q1⟩ => ?_)
  obtain ⟨c, rfl, q1⟩ := q1
  cases r1
  exact not_of (wpAny_truthy_bool ⟨.bl (!c), H1, I1, rfl, q1⟩)
def tIf (t : TT) (ta tb : TE) : TE := fun σ H Q => t σ H fun c H1 => if c = true then ta σ H1 Q else tb σ H1 Q
theorem pe_ifExp {c : Expr} (hc : PT X c tA) (ha : PE X a ta) (hb : PE X b tb) : PE X (.IfExp c a b pos) (tIf tA ta tb) := by
  intro pins s σ H Q I h
  refine wpAny_IfExp (thn (hc pins s σ H _ I h) fun d s1 ⟨H1, I1, q1⟩ => ?_)
  cases d with
  | true => exact ha pins s1 σ H1 Q I1 q1
  | false => exact hb pins s1 σ H1 Q I1 q1
end
end L2
namespace L2
open PySem PySem.Spec PyProof.Rows
def SqL (K : PySem.W.Frag) (H : Hp) (a : Addr) (xs : List V) : Prop :=
  Rd H a (.lst xs) ∨
    ∃ (o : Obj) (its : Array Value) (n : Nat), K.lookup a = some o ∧ o.cls = .type "list" ∧ o.dict = none ∧ o.data = .seq its n ∧ its.size ≤ sizeLine ∧ Vals xs its.toList
def SqT (K : PySem.W.Frag) (H : Hp) (a : Addr) (xs : List V) : Prop :=
  Rd H a (.tup xs) ∨
    ∃ (o : Obj) (its : Array Value) (n : Nat), K.lookup a = some o ∧ o.cls = .type "tuple" ∧ o.data = .seq its n ∧ its.size ≤ sizeLine ∧ Vals xs its.toList
def absV : Value → Option V
  | .none => some .non
  | .bool b => some (.bl b)
  | .int i _ => some (.int i)
  | .str x _ => some (.str x)
  | .bytes b _ => some (.byt b)
  | .float b _ => some (.flt b)
  | .ref a => some (.ref a)
  | .type n => some (.ty n)
  | _ => none
theorem RelV.abs {x : V} {u : Value} (r : RelV x u) : absV u = some x := by
  cases x with
  | non => cases r; rfl
  | bl _ => cases r; rfl
  | int _ => obtain ⟨t, rfl⟩ := r; rfl
  | str _ => obtain ⟨t, rfl⟩ := r; rfl
  | byt _ => obtain ⟨t, rfl⟩ := r; rfl
  | flt _ => obtain ⟨t, rfl⟩ := r; rfl
  | ref _ => cases r; rfl
  | ty _ => cases r; rfl
theorem RelV.inj {x y : V} {u : Value} (r : RelV x u) (q : RelV y u) : x = y := Option.some.inj (r.abs.symm.trans q.abs)
theorem Vals.inj : ∀ {xs ys : List V} {us : List Value}, Vals xs us → Vals ys us → xs = ys
  | _, _, _, .nil, .nil => rfl
  | _, _, _, .cons r t, .cons r' t' => by rw [r.inj r', Vals.inj t t']
section
variable {X : Cx} {pins : List (Addr × Obj)} {σ : St} {H : Hp} {s : Shared} {a : Addr} {xs ys : List V}
theorem SqL.of {K : PySem.W.Frag} (h : H a = some (.lst xs)) : SqL K H a xs := .inl (.inl h)
theorem SqT.of {K : PySem.W.Frag} (h : H a = some (.tup xs)) : SqT K H a xs := .inl (.inl h)
theorem Inv.list (I : Inv X pins σ H s) (h : SqL X.K H a xs) : ∃ its : List Value, Vals xs its ∧ PlainL s.heap a its.toArray ∧ xs.length ≤ sizeLine := by
  rcases h with h | ⟨o, its, n, hk, hc, hd, hs, hz, r⟩
  · obtain ⟨z, its, n, r, e⟩ := h.ok I.hok
    exact ⟨its, r, ⟨_, n, e, rfl, rfl, rfl⟩, z⟩
  · refine ⟨its.toList, r, ⟨o, n, I.kIn a o hk, hc, hd, by simpa using hs⟩, ?_⟩
    have e := r.length
    simp only [Array.length_toList] at e
    omega
theorem Inv.tuple (I : Inv X pins σ H s) (h : SqT X.K H a xs) : ∃ its : List Value, Vals xs its ∧ IsTup s.heap a its.toArray ∧ xs.length ≤ sizeLine := by
  rcases h with h | ⟨o, its, n, hk, hc, hs, hz, r⟩
  · obtain ⟨z, its, r, p⟩ := h.ok I.hok
    exact ⟨its, r, p, z⟩
  · refine ⟨its.toList, r, ⟨o, I.kIn a o hk, hc, n, by simpa using hs⟩, ?_⟩
    have e := r.length
    simp only [Array.length_toList] at e
    omega
theorem Inv.list_inj (I : Inv X pins σ H s) (h : SqL X.K H a xs) (h' : SqL X.K H a ys) : xs = ys := by
  obtain ⟨its, r, ⟨o, n, e, _, _, d⟩, _⟩ := I.list h
  obtain ⟨its', r', ⟨o', n', e', _, _, d'⟩, _⟩ := I.list h'
  rw [e] at e'; cases e'
  rw [d] at d'
  injection d' with d1 _
  have : its = its' := by simpa using congrArg Array.toList d1
  subst this
  exact r.inj r'
theorem Inv.tuple_inj (I : Inv X pins σ H s) (h : SqT X.K H a xs) (h' : SqT X.K H a ys) : xs = ys := by
  obtain ⟨its, r, ⟨o, e, _, n, d⟩, _⟩ := I.tuple h
  obtain ⟨its', r', ⟨o', e', _, n', d'⟩, _⟩ := I.tuple h'
  rw [e] at e'; cases e'
  rw [d] at d'
  injection d' with d1 _
  have : its = its' := by simpa using congrArg Array.toList d1
  subst this
  exact r.inj r'
end
abbrev Cx.wish (X : Cx) (E : Value → Shared → Prop) : Cx := { X with xe := E }
abbrev Cx.nox (X : Cx) : Cx := X.wish fun _ _ => False
theorem Cx.Ok.wish {X : Cx} (ok : X.Ok) (E : Value → Shared → Prop) : (X.wish E).Ok :=
  ⟨ok.mod, ok.kind, ok.glob, ok.blt, ok.above, ok.inj, ok.has, ok.cab, ok.hd, ok.frames, ok.stk, ok.exf, ok.bs, ok.bsz, ok.noex, ok.exfs, ok.funs, ok.frf⟩
theorem Cx.Ok.unwish {X : Cx} {E : Value → Shared → Prop} (ok : (X.wish E).Ok) : X.Ok :=
  ⟨ok.mod, ok.kind, ok.glob, ok.blt, ok.above, ok.inj, ok.has, ok.cab, ok.hd, ok.frames, ok.stk, ok.exf, ok.bs, ok.bsz, ok.noex, ok.exfs, ok.funs, ok.frf⟩
section
variable {X : Cx} {pins : List (Addr × Obj)} {σ : St} {H : Hp} {s : Shared} {E : Value → Shared → Prop}
theorem Inv.wish (I : Inv X pins σ H s) (E : Value → Shared → Prop) : Inv (X.wish E) pins σ H s := ⟨I.ok.wish E, I.os, I.bare, I.base, I.loc, I.cell, I.free, I.freeC, I.pin, I.hok, I.len⟩
theorem Inv.unwish (I : Inv (X.wish E) pins σ H s) : Inv X pins σ H s := ⟨I.ok.unwish, I.os, I.bare, I.base, I.loc, I.cell, I.free, I.freeC, I.pin, I.hok, I.len⟩
theorem SP.unwish {D : Ends} {f : Flow} {s' : Shared} (h : SP (X.wish E) pins D f s') : SP X pins D f s' := by
  cases f with
  | next => obtain ⟨σ', H', I, q⟩ := h; exact ⟨σ', H', I.unwish, q⟩
  | brk => obtain ⟨σ', H', I, q⟩ := h; exact ⟨σ', H', I.unwish, q⟩
  | cont => obtain ⟨σ', H', I, q⟩ := h; exact ⟨σ', H', I.unwish, q⟩
  | ret u => obtain ⟨v, σ', H', I, r, q⟩ := h; exact ⟨v, σ', H', I.unwish, r, q⟩
theorem PSs.nox {st : List Stmt} {t : TS} (h : PSs X.nox st t) : PSs X st t := fun pins s σ H D I hw =>
  wpAny_mono (h pins s σ H D (I.wish _) hw) (fun _ _ q => q.unwish) fun _ _ z => False.elim z
end
section
variable {X : Cx} {st : Stmt} {rest : List Stmt} {t u : TS} {e : Expr} {te : TE} {pos : Pos}
def tNext : TS := fun D σ H => D.nx σ H
def tSeq (t u : TS) : TS := fun D σ H => t { D with nx := u D } σ H
theorem pss_nil : PSs X [] tNext := fun _ _ σ H _ I h => wpAny_execs_nil ⟨σ, H, I, h⟩
theorem pss_cons (h1 : PS X st t) (h2 : PSs X rest u) : PSs X (st :: rest) (tSeq t u) := by
  intro pins s σ H D I h
  refine wpAny_execs_cons (thn (h1 pins s σ H { D with nx := u D } I h) fun f s1 q => ?_)
  cases f with
  | next =>
    obtain ⟨σ', H', I', q⟩ := q
    exact h2 pins s1 σ' H' D I' q
  | ret v => exact q
  | brk => exact q
  | cont => exact q
theorem pss_one (h1 : PS X st t) : PSs X [st] t := by
  intro pins s σ H D I h
  refine wpAny_execs_cons (thn (h1 pins s σ H D I h) fun f s1 q => ?_)
  cases f with
  | next => exact wpAny_execs_nil q
  | ret v => exact q
  | brk => exact q
  | cont => exact q
theorem Inv.quiet {pins : List (Addr × Obj)} {σ : St} {H : Hp} {s : Shared} (I : Inv X pins σ H s) : interactive X.env = false := by simp [interactive, I.ok.kind]
def tDrop (te : TE) : TS := fun D σ H => te σ H fun _ H1 => D.nx σ H1
theorem ps_expr (he : PE X e te) (hs : swapsWith e none pos.line X.env = pure false := by rfl) : PS X (.Expr e pos) (tDrop te) := by
  intro pins s σ H D I h
  exact wpAny_Expr_any (thn (he pins s σ H _ I h) fun v s1 ⟨x, H1, I1, r1, q1⟩ => ⟨σ, H1, I1, q1⟩) I.quiet hs
def tRet (te : TE) : TS := fun D σ H => te σ H D.rt
theorem ps_ret (he : PE X e te) : PS X (.Return (some e) pos) (tRet te) := by
  intro pins s σ H D I h
  exact wpAny_Return_some (thn (he pins s σ H _ I h) fun v s1 ⟨x, H1, I1, r1, q1⟩ => ⟨x, σ, H1, I1, r1, q1⟩)
def tIfS (c : TT) (t u : TS) : TS := fun D σ H => c σ H fun b H1 => if b = true then t D σ H1 else u D σ H1
theorem ps_if {c : Expr} {a b : List Stmt} {tc : TT} (hc : PT X c tc) (ha : PSs X a t) (hb : PSs X b u) : PS X (.If c a b pos) (tIfS tc t u) := by
  intro pins s σ H D I h
  refine wpAny_If (thn (hc pins s σ H _ I h) fun d s1 ⟨H1, I1, q1⟩ => ?_)
  cases d with
  | true => exact ha pins s1 σ H1 D I1 q1
  | false => exact hb pins s1 σ H1 D I1 q1
end
abbrev TG := V → St → Hp → (St → Hp → Prop) → Prop
abbrev TGs := List V → St → Hp → (St → Hp → Prop) → Prop
def PG (X : Cx) (target : Expr) (t : TG) : Prop :=
  ∀ (pins : List (Addr × Obj)) (s : Shared) (σ : St) (H : Hp) (v : V) (u : Value) (Q : St → Hp → Prop), Inv X pins σ H s → RelV v u → t v σ H Q →
    wpAny (model X.prog X.w) X.A (assign target X.env u) (fun _ s' => ∃ σ' H', Inv X pins σ' H' s' ∧ Q σ' H') X.xe s
def PGs (X : Cx) (ts : List Expr) (t : TGs) : Prop :=
  ∀ (pins : List (Addr × Obj)) (s : Shared) (σ : St) (H : Hp) (vs : List V) (us : List Value) (Q : St → Hp → Prop), Inv X pins σ H s → Vals vs us → t vs σ H Q →
    wpAny (model X.prog X.w) X.A (assignInOrder ((assignEach ts X.env).map (·.2)) us) (fun _ s' => ∃ σ' H', Inv X pins σ' H' s' ∧ Q σ' H') X.xe s
abbrev TSet := V → V → V → Hp → (Hp → Prop) → Prop
def PSet (X : Cx) (t : TSet) : Prop :=
  ∀ (pins : List (Addr × Obj)) (s : Shared) (σ : St) (H : Hp) (o i v : V) (ov iv u : Value) (Q : Hp → Prop), Inv X pins σ H s → RelV o ov → RelV i iv → RelV v u → t o i v H Q →
    wpAny (model X.prog X.w) X.A (setItem ov iv u) (fun _ s' => ∃ H', Inv X pins σ H' s' ∧ Q H') X.xe s
abbrev TIp := V → V → Hp → VK → Prop
def PIp (X : Cx) (op : Operator) (t : TIp) : Prop :=
  ∀ (pins : List (Addr × Obj)) (s : Shared) (σ : St) (H : Hp) (x y : V) (v u : Value) (Q : VK), Inv X pins σ H s → RelV x v → RelV y u → t x y H Q →
    wpAny (model X.prog X.w) X.A (inplaceOp op v u) (EP X pins σ Q) X.xe s
section
variable {X : Cx} {pos : Pos}
def gName (i : Nat) : TG := fun v σ H Q => Q (σ.set i (some v)) H
theorem pg_name {i : Nat} {x : Str} (hN : X.N.Nodup) (hi : X.N[i]? = some x) (hx : Loc X.env.scope x) (hf : X.fn x = true ∨ X.env.scope.names.lookup x = some .local := by first | exact .inl rfl | exact .inr rfl | assumption) : PG X (.Name x pos) (gName i) := by
  intro pins s σ H v u Q I r h
  exact wpAny_assign_Name (store_ok I hN hi hx r (fun s' I' => ⟨_, H, I', h⟩) hf)
def gNil : TGs := fun vs σ H Q => vs = [] ∧ Q σ H
def gCons (t : TG) (u : TGs) : TGs := fun vs σ H Q => ∃ v r, vs = v :: r ∧ t v σ H fun σ' H' => u r σ' H' Q
theorem pgs_nil : PGs X [] gNil := by
  intro pins s σ H vs us Q I r h
  obtain ⟨e, h⟩ := h
  subst e
  cases r
  exact assignInOrder_nil ⟨σ, H, I, h⟩
theorem pgs_cons {e : Expr} {es : List Expr} {t : TG} {u : TGs} (h1 : PG X e t) (h2 : PGs X es u)
    (hs : (assignEach (e :: es) X.env).map (·.2) = assign e X.env :: (assignEach es X.env).map (·.2) := by rfl) : PGs X (e :: es) (gCons t u) := by
  intro pins s σ H vs us Q I r h
  obtain ⟨v, vr, e1, h⟩ := h
  subst e1
  cases r with
  | cons r rr =>
    rw [hs]
    refine assignInOrder_cons (thn (h1 pins s σ H _ _ _ I r h) fun _ s1 ⟨σ1, H1, I1, q1⟩ => ?_)
    exact h2 pins s1 σ1 H1 _ _ Q I1 rr q1
def gTup (K : PySem.W.Frag) (n : Nat) (t : TGs) : TG := fun v σ H Q => ∃ a xs, v = .ref a ∧ SqT K H a xs ∧ xs.length = n ∧ t xs σ H Q
theorem pg_tup {es : List Expr} {k : Nat} {t : TGs} {n : Nat} (hc : X.calm = true) (h : PGs X es t)
    (hn : (assignEach es X.env).length = n := by rfl) (hst : (assignEach es X.env).findIdx? (·.1) = none := by rfl) : PG X (.Tuple es k pos) (gTup X.K n t) := by
  intro pins s σ H v u Q I r hw
  obtain ⟨a, xs, e1, hq, hl, hw⟩ := hw
  subst e1
  cases r
  obtain ⟨its, rv, ht, hz⟩ := I.tuple hq
  refine assign_Tuple_tuple (I.ok.hd hc) ht (by simp [hn, ← hl, rv.length]) hst fun h' hx => ?_
  have I1 : Inv X pins σ H { s with heap := h' } := I.kept (t' := s.toks) fun b o e => hx b o (Nat.ne_of_lt (Heap.lt_size e)) e
  exact h pins _ σ H xs _ Q I1 (by simpa using rv) hw
def gSub (to ti : TE) (t : TSet) : TG := fun v σ H Q => to σ H fun o H1 => ti σ H1 fun i H2 => t o i v H2 fun H3 => Q σ H3
theorem pg_sub {o i : Expr} {to ti : TE} {t : TSet} (ho : PE X o to) (hi : PE X i ti) (hs : PSet X t)
    (ha : ∀ v, assign (.Subscript o i pos) X.env v = (do
      let ov ← holding [v] (eval o X.env)
      let iv ← holding [v, ov] (eval i X.env)
      standAt pos
      holding [v, ov, iv] (setItem ov iv v)
      release [v, ov, iv] []) := by intro _; rfl) : PG X (.Subscript o i pos) (gSub to ti t) := by
  intro pins s σ H v u Q I r h
  rw [ha]
  refine wpAny_bind (wpAny_holding (thn (ho pins s σ H _ I h) fun ov s1 ⟨x, H1, I1, r1, q1⟩ => ?_))
  refine wpAny_bind (wpAny_holding (thn (hi pins s1 σ H1 _ I1 q1) fun iv s2 ⟨y, H2, I2, r2, q2⟩ => ?_))
  refine wpAny_bind (wpAny_standAt (wpAny_bind (wpAny_holding (thn (hs pins s2 σ H2 x y v ov iv u _ I2 r1 r2 r q2) fun _ s3 ⟨H3, I3, q3⟩ => ?_))))
  exact wpAny_release ⟨σ, H3, I3, q3⟩
def tAsg (te : TE) (g : TG) : TS := fun D σ H => te σ H fun x H1 => g x σ H1 D.nx
theorem ps_asg {tg e : Expr} {te : TE} {g : TG} (he : PE X e te) (hg : PG X tg g) (hs : swapsWithSole [tg] e pos.line X.env = pure false := by rfl) (hw : swappedStores [tg] e X.env = pure none := by rfl)
    (h1 : (assignEach [tg] X.env).map (·.2) = [assign tg X.env] := by rfl) : PS X (.Assign [tg] e pos) (tAsg te g) := by
  intro pins s σ H D I h
  refine wpAny_Assign_stores (thn (he pins s σ H _ I h) fun v s1 ⟨x, H1, I1, r1, q1⟩ => ?_) hs hw
  rw [h1]
  exact thn (hg pins s1 σ H1 x v _ I1 r1 q1) fun _ s2 q => q
theorem ps_set {i : Nat} {x : Str} {e : Expr} {te : TE} {pos' : Pos} (hN : X.N.Nodup) (hi : X.N[i]? = some x) (hx : Loc X.env.scope x) (he : PE X e te) (hs : swapsWith e (some (.Name x pos')) pos.line X.env = pure false := by rfl) (hf : X.fn x = true ∨ X.env.scope.names.lookup x = some .local := by first | exact .inl rfl | exact .inr rfl | assumption) :
    PS X (.Assign [.Name x pos'] e pos) (tAsg te (gName i)) := by
  intro pins s σ H D I h
  refine wpAny_Assign_Name (thn (he pins s σ H _ I h) fun v s1 ⟨y, H1, I1, r1, q1⟩ => ?_) hs
  exact store_ok I1 hN hi hx r1 (fun s2 I2 => ⟨_, H1, I2, q1⟩) hf
def tAug (i : Nat) (te : TE) (ti : TIp) : TS := fun D σ H => ∃ x, σ[i]? = some (some x) ∧ te σ H fun y H1 => ti x y H1 fun z H2 => D.nx (σ.set i (some z)) H2
theorem ps_aug {i : Nat} {x : Str} {e : Expr} {te : TE} {op : Operator} {ti : TIp} {pos' : Pos} (hN : X.N.Nodup) (hi : X.N[i]? = some x) (hx : Loc X.env.scope x) (he : PE X e te) (ho : PIp X op ti) (hf : X.fn x = true ∨ X.env.scope.names.lookup x = some .local := by first | exact .inl rfl | exact .inr rfl | assumption) :
    PS X (.AugAssign (.Name x pos') op e pos) (tAug i te ti) := by
  intro pins s σ H D I h
  obtain ⟨v, e1, h⟩ := h
  obtain ⟨m, hn, hl⟩ := I.loc
  have vis : Vis X.env.scope x := by rcases hx with k | k; exact .inl k; exact .inr (.inl k)
  obtain ⟨u, r, l⟩ := hl i x v hi e1 vis
  refine wpAny_AugAssign_Name ?_
  have go : wpAny (model X.prog X.w) X.A (eval e X.env) (fun w s₂ => wpAny (model X.prog X.w) X.A (inplaceOp op u w) (fun r s₃ => wpAny (model X.prog X.w) X.A (storeName X.env x r) (fun _ => SP X pins D .next) X.xe s₃) X.xe s₂) X.xe s := by
    refine thn (he pins s σ H _ I h) fun w s1 ⟨y, H1, I1, r1, q1⟩ => ?_
    refine thn (ho pins s1 σ H1 v y u w _ I1 r r1 q1) fun z s2 ⟨zv, H2, I2, r2, q2⟩ => ?_
    exact store_ok I2 hN hi hx r2 (fun s3 I3 => ⟨_, H2, I3, q2⟩) hf
  rcases l with ⟨hk, hm⟩ | ⟨hk, c, hc, hcell⟩
  · exact wpAny_loadName_local I.ok.kind hk hn hm go
  · rcases hk with hk | hk
    · exact wpAny_loadName_cell I.ok.kind hk hc hcell go
    · rcases hx with k | k
      · have : X.env.scope.names.lookup x = some .free := hk
        rw [k] at this; cases this
      · have : X.env.scope.names.lookup x = some .free := hk
        rw [k] at this; cases this
def ipI (f : Int → Int → Int) : TIp := fun x y H Q => ∃ i j, x = .int i ∧ y = .int j ∧ Q (.int (f i j)) H
theorem ip_add : PIp X .Add (ipI fun i j => i + j) := by
  intro pins s σ H x y v u Q I r1 r2 h
  obtain ⟨i, j, e1, e2, q⟩ := h
  subst e1; subst e2
  obtain ⟨t, rfl⟩ := r1
  obtain ⟨t', rfl⟩ := r2
  exact iadd_int ⟨.int _, H, I.tok _, ⟨_, rfl⟩, q⟩
theorem ip_sub : PIp X .Sub (ipI fun i j => i - j) := by
  intro pins s σ H x y v u Q I r1 r2 h
  obtain ⟨i, j, e1, e2, q⟩ := h
  subst e1; subst e2
  obtain ⟨t, rfl⟩ := r1
  obtain ⟨t', rfl⟩ := r2
  exact isub_int ⟨.int _, H, I.tok _, ⟨_, rfl⟩, q⟩
end
section
variable {X : Cx} {pos : Pos}
def tWhile (c : TT) (tb : TS) : TS := fun D σ H => ∃ W : Nat → St → Hp → Prop, (∃ m, W m σ H) ∧ ∀ m σ H, W m σ H →
  c σ H fun b H1 => if b = true then ∃ N : St → Hp → Prop, (∀ σ' H', N σ' H' → ∃ m', m' < m ∧ W m' σ' H') ∧ tb { D with nx := N, ct := N, bk := D.nx } σ H1 else D.nx σ H1
theorem ps_while {c : Expr} {body : List Stmt} {tc : TT} {tb : TS} (hp : PassesOwn (model X.prog X.w) X.A X.env X.xe) (hc : PT X c tc) (hb : PSs X body tb) : PS X (.While c body [] pos) (tWhile tc tb) := by
  intro pins s σ H D I h
  obtain ⟨W, ⟨m0, w0⟩, turn⟩ := h
  refine wpAny_While (codeAny_whileLoop (fun n s' => ∃ σ' H', Inv X pins σ' H' s' ∧ W n σ' H') ?_ m0 ⟨σ, H, I, w0⟩)
  rintro n s1 ⟨σ1, H1, I1, w1⟩
  refine wpAny_passesOwn hp (thn (hc pins s1 σ1 H1 _ I1 (turn n σ1 H1 w1)) fun b s2 ⟨H2, I2, q2⟩ => ?_)
  cases b with
  | true =>
    obtain ⟨N, hN, q2⟩ := q2
    rw [if_pos rfl]
    refine wpAny_passesOwn hp (thn (hb pins s2 σ1 H2 _ I2 q2) fun f s3 q3 => ?_)
    cases f with
    | next =>
      obtain ⟨σ3, H3, I3, n3⟩ := q3
      obtain ⟨m', hm, w3⟩ := hN σ3 H3 n3
      exact ⟨m', hm, σ3, H3, I3, w3⟩
    | cont =>
      obtain ⟨σ3, H3, I3, n3⟩ := q3
      obtain ⟨m', hm, w3⟩ := hN σ3 H3 n3
      exact ⟨m', hm, σ3, H3, I3, w3⟩
    | brk => exact q3
    | ret v => exact q3
  | false =>
    rw [if_neg Bool.false_ne_true]
    exact wpAny_execs_nil ⟨σ1, H2, I2, q2⟩
end
structure It where
  go : Nat → Hp → Prop
  yld : Nat → Hp → V → Hp → Prop
  stop : Nat → Hp → Prop
def FpOk (X : Cx) (pins : List (Addr × Obj)) (H : Hp) (b : Addr) : Prop :=
  H b = none ∧ b ≠ X.env.locals ∧ b ∉ X.fs ∧ (b ∈ X.ex ∨ X.s₀.heap.objs.size ≤ b) ∧ (∀ x c, X.env.cells.lookup x = some c → c ≠ b) ∧ ∀ p ∈ X.pn ++ pins, p.1 ≠ b
theorem Inv.fpOk {X : Cx} {pins : List (Addr × Obj)} {σ : St} {H H' : Hp} {s : Shared} {b : Addr} (I : Inv X pins σ H s) (hb : s.heap.objs.size ≤ b) (hn : H' b = none) : FpOk X pins H' b := by
  refine ⟨hn, Nat.ne_of_gt (Nat.lt_of_lt_of_le I.lt hb), I.nofs hb, .inr (Nat.le_trans I.sz hb), fun x c e z => ?_, fun p hp z => ?_⟩
  · obtain ⟨v, q⟩ := I.cell x c e
    exact absurd (Nat.lt_of_lt_of_le q.lt (by rw [z]; exact hb)) (Nat.lt_irrefl _)
  · exact absurd (Nat.lt_of_lt_of_le (Heap.lt_size (I.pin p hp).1) (by rw [z]; exact hb)) (Nat.lt_irrefl _)
structure Turn (P : Program) (w : World) (K : PySem.W.Frag) (tg : Expr) (J : It) (fp : List Addr) (it : Addr) (tn : Nat → Heap → Prop) : Prop where
  mem : it ∈ fp
  obj : ∀ i h, tn i h → ∀ b ∈ fp, ∃ o, h.get? b = some o ∧ ∀ v, o.data ≠ .cell v
  keep : ∀ i h h', tn i h → (∀ b ∈ fp, ∀ o, h.get? b = some o → h'.get? b = some o) → tn i h'
  item : ∀ (X : Cx), X.prog = P → X.w = w → X.K = K → X.calm = true → ∀ (i : Nat) (pins : List (Addr × Obj)) (s : Shared) (σ : St) (H : Hp) (E : Value → Shared → Prop), Inv X pins σ H s → (∀ b ∈ fp, FpOk X pins H b) → tn i s.heap → J.go i H →
    wpAny (model P w) X.A (pyNext (.ref it)) (fun r s1 => ∃ u, r = some u ∧
      wpAny (model P w) X.A (letOwnedTupleGo tg (.ref it) u) (fun _ s2 => ∃ x H', Inv X pins σ H' s2 ∧ RelV x u ∧ J.yld i H x H' ∧ tn (i + 1) s2.heap ∧ ∀ b ∈ fp, H' b = none) E s1) E s
  done : ∀ (X : Cx), X.prog = P → X.w = w → X.K = K → X.calm = true → ∀ (i : Nat) (pins : List (Addr × Obj)) (s : Shared) (σ : St) (H : Hp) (E : Value → Shared → Prop), Inv X pins σ H s → (∀ b ∈ fp, FpOk X pins H b) → tn i s.heap → J.stop i H →
    wpAny (model P w) X.A (pyNext (.ref it)) (fun r s1 => r = none ∧ Inv X pins σ H s1) E s
  self : ∀ (A : Around) (i : Nat) (s : Shared) (Q : Value → Shared → Prop) (E : Value → Shared → Prop), tn i s.heap → Q (.ref it) s → wpAny (model P w) A (pyIter (.ref it)) Q E s
abbrev TI := St → Hp → (It → Hp → Prop) → Prop
def PIE (X : Cx) (pins : List (Addr × Obj)) (σ : St) (tg : Expr) (R : It → Hp → Prop) (itv : Value) (s2 : Shared) : Prop :=
  ∃ (it : Addr) (fp : List Addr) (tn : Nat → Heap → Prop) (J : It) (H' : Hp), itv = .ref it ∧ Inv X pins σ H' s2 ∧ Turn X.prog X.w X.K tg J fp it tn ∧ tn 0 s2.heap ∧ (∀ b ∈ fp, FpOk X pins H' b) ∧ R J H'
def PI (X : Cx) (tg iter : Expr) (wi : TI) : Prop :=
  ∀ (pins : List (Addr × Obj)) (s : Shared) (σ : St) (H : Hp) (R : It → Hp → Prop), Inv X pins σ H s → wi σ H R →
    wpAny (model X.prog X.w) X.A (eval iter X.env) (fun v s1 => wpAny (model X.prog X.w) X.A (pyIter v) (PIE X pins σ tg R) X.xe s1) X.xe s
theorem go_of {M : Model} {A : Around} {E : Value → Shared → Prop} {s : Shared} {tg : Expr} {it : Addr} {u : Value} {o : Obj} {n : String} {vs : Array Value} {Q : Unit → Shared → Prop} (ho : s.heap.get? it = some o) (hc : o.cls = .type n) (hd : o.data = .fields vs)
    (hn : ["enumerate", "zip", "dict_itemiterator", "dict_reverseitemiterator", "odict_iterator", "itertools.zip_longest", "itertools.pairwise"].contains n = false) (hQ : Q () s) : wpAny M A (letOwnedTupleGo tg (.ref it) u) Q E s := by
  unfold letOwnedTupleGo
  cases tg <;> first
    | exact wpAny_pure hQ
    | (cases u <;> first
        | exact wpAny_pure hQ
        | (refine wpAny_bind (wpAny_load ho ?_)
           rw [hc, hd]
           show wpAny M A (if (["enumerate", "zip", "dict_itemiterator", "dict_reverseitemiterator", "odict_iterator", "itertools.zip_longest", "itertools.pairwise"].contains n && vs[0]? == some (rawInt _)) = true then _ else _) Q E s
           rw [if_neg (by intro h; rw [hn, Bool.false_and] at h; cases h)]
           exact wpAny_pure hQ))
def Itl (K : PySem.W.Frag) (a : Addr) : It :=
  ⟨fun i H => ∃ xs x, SqL K H a xs ∧ xs[i]? = some x, fun i H x H' => H' = H ∧ ∀ xs, SqL K H a xs → xs[i]? = some x, fun i H => ∃ xs, SqL K H a xs ∧ xs.length ≤ i⟩
def Itr (lo : Int) (n : Nat) : It := ⟨fun i _ => i < n, fun i H x H' => H' = H ∧ x = .int (lo + i), fun i _ => n ≤ i⟩
theorem turn_list {P : Program} {w : World} {K : PySem.W.Frag} {tg : Expr} (a it : Addr) : Turn P w K tg (Itl K a) [it] it (fun i h => h.IsListIter it a i) where
  mem := by simp
  obj := fun i h st b hb => by
    have e : b = it := by simpa using hb
    subst e
    obtain ⟨o, e, c, d⟩ := st
    exact ⟨o, e, fun v z => by rw [d] at z; cases z⟩
  keep := fun i h h' st k => st.at fun o e => k it (by simp) o e
  item := by
    intro X hP hw hK hc i pins s σ H E I hf st hg
    subst hP hw hK
    obtain ⟨xs, x, hq, hx⟩ := hg
    obtain ⟨its, rv, p, hz⟩ := I.list hq
    obtain ⟨u, hu, ru⟩ := rv.get hx
    obtain ⟨f0, f1, f2, f3, f4, f5⟩ := hf it (by simp)
    refine wpAny_pyNext_list_item st p.isList (x := u) (by simpa using hu) fun h' st' sb => ?_
    have I1 : Inv X pins σ H { s with heap := h' } := I.turned (t' := s.toks) (fun b o hb e => (sb.2 b hb).trans e) f0 f1 f3 f4 f5
    obtain ⟨o, e, c, d⟩ := id st'
    exact ⟨u, rfl, go_of (s := { s with heap := h' }) e c d (by decide) ⟨x, H, I1, ru, ⟨rfl, fun ys hy => by rw [I.list_inj hy hq]; exact hx⟩, st', fun b hb => (hf b hb).1⟩⟩
  done := by
    intro X hP hw hK hc i pins s σ H E I hf st hg
    subst hP hw hK
    obtain ⟨xs, hq, hx⟩ := hg
    obtain ⟨its, rv, p, hz⟩ := I.list hq
    obtain ⟨f0, f1, f2, f3, f4, f5⟩ := hf it (by simp)
    have hl := rv.length
    exact wpAny_pyNext_list_end (I.ok.hd hc) st p.isList (by simp; omega) fun h' eb => ⟨rfl, I.turned (t' := s.toks) (fun b o hb e => eb b o hb e) f0 f1 f3 f4 f5⟩
  self := fun _ _ _ _ _ st h => wpAny_pyIter_listiter st h
theorem turn_range {P : Program} {w : World} {K : PySem.W.Frag} {tg : Expr} (it : Addr) (lo : Int) (n : Nat) : Turn P w K tg (Itr lo n) [it] it (fun i h => IsRangeIter h it (lo + (i : Nat) * 1) ((n : Int) - (i : Nat)) 1) where
  mem := by simp
  obj := fun i h st b hb => by
    have e : b = it := by simpa using hb
    subst e
    exact ⟨_, st, fun v z => by
      have z' : Data.fields _ = Data.cell v := z
      cases z'⟩
  keep := fun i h h' st k => k it (by simp) _ st
  item := by
    intro X hP hw hK hc i pins s σ H E I hf st hg
    subst hP hw hK
    obtain ⟨f0, f1, f2, f3, f4, f5⟩ := hf it (by simp)
    have W := Walks.range (prog := X.prog) (w := X.w) (I.ok.hd hc) it lo 1 n
    refine W.item i s _ _ hg st fun v h' tk hv st' kk => ?_
    obtain ⟨t, rfl⟩ := hv
    have I1 : Inv X pins σ H { s with heap := h', toks := tk } := I.turned (fun b o hb e => kk b o (by simpa using hb) e) f0 f1 f3 f4 f5
    refine ⟨_, rfl, go_of (s := { s with heap := h', toks := tk }) (n := "range_iterator") st' rfl rfl (by decide) ⟨.int (lo + i), H, I1, ⟨t, ?_⟩, ⟨rfl, rfl⟩, st', fun b hb => (hf b hb).1⟩⟩
    rw [Int.mul_one]
  done := by
    intro X hP hw hK hc i pins s σ H E I hf st hg
    subst hP hw hK
    obtain ⟨f0, f1, f2, f3, f4, f5⟩ := hf it (by simp)
    exact wpAny_pyNext_range_end (I.ok.hd hc) st (by have : n ≤ i := hg; omega) fun h' eb => ⟨rfl, I.turned (t' := s.toks) (fun b o hb e => eb b o hb e) f0 f1 f3 f4 f5⟩
  self := fun _ _ _ _ _ st h => wpAny_pyIter_rangeiter st h
end L2
namespace L2
open PySem PySem.Spec PyProof.Rows
section
variable {X : Cx} {tg : Expr}
def iList (K : PySem.W.Frag) (tl : TE) : TI := fun σ H R => tl σ H fun x H1 => ∃ a, x = .ref a ∧ (∃ xs, SqL K H1 a xs) ∧ R (Itl K a) H1
theorem pi_list {l : Expr} {tl : TE} (hl : PE X l tl) : PI X tg l (iList X.K tl) := by
  intro pins s σ H R I h
  refine thn (hl pins s σ H _ I h) fun v s1 ⟨x, H1, I1, r1, q1⟩ => ?_
  obtain ⟨a, e, ⟨xs, hq⟩, q⟩ := q1
  subst e
  cases r1
  obtain ⟨its, rv, p, hz⟩ := I1.list hq
  refine wpAny_pyIter_list p.isList ?_
  refine ⟨s1.heap.objs.size, [s1.heap.objs.size], _, _, H1, rfl, I1.kept (t' := s1.toks) fun b o e => Heap.get?_push_of_some _ e, turn_list a _, ⟨_, Heap.get?_push_size _ rfl, rfl, rfl⟩, fun b hb => ?_, q⟩
  have e : b = s1.heap.objs.size := by simpa using hb
  subst e
  exact I1.fpOk (Nat.le_refl _) (I1.hok.fresh (Nat.le_refl _))
theorem range_it {pins : List (Addr × Obj)} {σ : St} {H : Hp} {s : Shared} {R : It → Hp → Prop} {E : Value → Shared → Prop} {lo hi : Int} {t u v : Tok} {tk : Nat} (I : Inv X pins σ H s) (h1 : -(2 ^ 62) ≤ lo) (h2 : lo < 2 ^ 62) (h3 : -(2 ^ 62) ≤ hi) (h4 : hi < 2 ^ 62)
    (q : R (Itr lo (hi - lo).toNat) H) : wpAny (model X.prog X.w) X.A (pyIter (.ref s.heap.objs.size)) (PIE X pins σ tg R) E { s with heap := s.heap.push { cls := .type "range", data := .fields #[.int lo t, .int hi u, .int 1 v] }, toks := tk } := by
  refine wpAny_pyIter_range (IsRange.new ..) (small_one h1 h2 h3 h4) ?_
  have I1 : Inv X pins σ H { s with heap := s.heap.push { cls := .type "range", data := .fields #[.int lo t, .int hi u, .int 1 v] }, toks := tk } := I.kept fun b o e => Heap.get?_push_of_some _ e
  refine ⟨(s.heap.push { cls := .type "range", data := .fields #[.int lo t, .int hi u, .int 1 v] }).objs.size, [(s.heap.push { cls := .type "range", data := .fields #[.int lo t, .int hi u, .int 1 v] }).objs.size], _, _, H, rfl,
    I1.kept (t' := tk) fun b o e => Heap.get?_push_of_some _ e, turn_range _ lo (hi - lo).toNat, ?_, fun b hb => ?_, q⟩
  · have e1 : lo + ((0 : Nat) : Int) * 1 = lo := by simp
    have e2 : (((hi - lo).toNat : Nat) : Int) - ((0 : Nat) : Int) = Builtin.Range.rangeSize lo hi 1 := by rw [rangeSize_one]; split <;> omega
    show IsRangeIter _ _ (lo + ((0 : Nat) : Int) * 1) ((((hi - lo).toNat : Nat) : Int) - ((0 : Nat) : Int)) 1
    rw [e1, e2]
    exact Heap.get?_push_size _ rfl
  · have e : b = (s.heap.push { cls := .type "range", data := .fields #[.int lo t, .int hi u, .int 1 v] }).objs.size := by simpa using hb
    subst e
    exact I1.fpOk (Nat.le_refl _) (I1.hok.fresh (Nat.le_refl _))
def iRng1 (ta : TA) : TI := fun σ H R => ta σ H fun vs H1 => ∃ j : Int, vs = [.int j] ∧ -(2 ^ 62) ≤ j ∧ j < 2 ^ 62 ∧ R (Itr 0 j.toNat) H1
def iRng2 (ta : TA) : TI := fun σ H R => ta σ H fun vs H1 => ∃ i j : Int, vs = [.int i, .int j] ∧ (-(2 ^ 62) ≤ i ∧ i < 2 ^ 62 ∧ -(2 ^ 62) ≤ j ∧ j < 2 ^ 62) ∧ R (Itr i (j - i).toNat) H1
theorem pi_range1 {a : Expr} {ta : TA} {p pos : Pos} (hg : Gl X "range") (hm : X.mg "range" = none) (ha : PA X [a] ta) (hs : starEach [a] X.env = [(false, eval a X.env)] := by rfl) : PI X tg (.Call (.Name "range" p) [a] [] pos) (iRng1 ta) := by
  intro pins s σ H R I h
  refine Call_ (ld_blt I hg hm boot_range (PyProof.Rows.callWith_type1 (thn (ha pos pins s σ H _ I h) fun us s1 ⟨vs, H1, I1, r1, q1⟩ => ?_) hs rfl))
  obtain ⟨j, e, q1, q2, q⟩ := q1
  subst e
  cases r1 with
  | cons r rr =>
    cases rr
    obtain ⟨t, rfl⟩ := r
    exact call_range_1 (range_it I1 (by omega) (by omega) q1 q2 (by simpa using q))
theorem pi_range2 {a b : Expr} {ta : TA} {p pos : Pos} (hg : Gl X "range") (hm : X.mg "range" = none) (ha : PA X [a, b] ta) (hs : starEach [a, b] X.env = [(false, eval a X.env), (false, eval b X.env)] := by rfl) (hs2 : starEach [b] X.env = [(false, eval b X.env)] := by rfl) :
    PI X tg (.Call (.Name "range" p) [a, b] [] pos) (iRng2 ta) := by
  intro pins s σ H R I h
  refine Call_ (ld_blt I hg hm boot_range (PyProof.Rows.callWith_type1 (thn (ha pos pins s σ H _ I h) fun us s1 ⟨vs, H1, I1, r1, q1⟩ => ?_) (by rw [hs, hs2]) (by rw [hs2]; rfl)))
  obtain ⟨i, j, e, ⟨q1, q2, q3, q4⟩, q⟩ := q1
  subst e
  cases r1 with
  | cons r rr =>
    cases rr with
    | cons r' rr =>
      cases rr
      obtain ⟨t, rfl⟩ := r
      obtain ⟨t', rfl⟩ := r'
      exact call_range_2 (range_it I1 q1 q2 q3 q4 q)
def tFor (wi : TI) (g : TG) (tb : TS) : TS := fun D σ H => wi σ H fun J H1 => ∃ W : Nat → Nat → St → Hp → Prop, (∃ m, W 0 m σ H1) ∧ ∀ i m σ H, W i m σ H →
  (J.stop i H ∧ D.nx σ H) ∨ (J.go i H ∧ ∃ N : St → Hp → Prop, (∀ σ' H', N σ' H' → ∃ m', m' < m ∧ W (i + 1) m' σ' H') ∧ ∀ x H', J.yld i H x H' → g x σ H' fun σ2 H2 => tb { D with nx := N, ct := N, bk := D.nx } σ2 H2)
def pinsAt (fp : List Addr) (h : Heap) : List (Addr × Obj) := fp.filterMap fun b => (h.get? b).map fun o => (b, o)
theorem mem_pinsAt {fp : List Addr} {h : Heap} {b : Addr} {o : Obj} (hb : b ∈ fp) (e : h.get? b = some o) : (b, o) ∈ pinsAt fp h := List.mem_filterMap.mpr ⟨b, hb, by rw [e]; rfl⟩
theorem of_pinsAt {fp : List Addr} {h : Heap} {p : Addr × Obj} (hp : p ∈ pinsAt fp h) : p.1 ∈ fp ∧ h.get? p.1 = some p.2 := by
  obtain ⟨b, hb, e⟩ := List.mem_filterMap.mp hp
  cases q : h.get? b with
  | none => rw [q] at e; cases e
  | some o =>
    rw [q] at e
    have e' : (b, o) = p := Option.some.inj e
    subst e'
    exact ⟨hb, q⟩
theorem Inv.pinned {pins : List (Addr × Obj)} {σ : St} {H : Hp} {s : Shared} {fp : List Addr} (I : Inv X pins σ H s) (hf : ∀ b ∈ fp, FpOk X pins H b) (ho : ∀ b ∈ fp, ∃ o, s.heap.get? b = some o ∧ ∀ v, o.data ≠ .cell v) : Inv X (pins ++ pinsAt fp s.heap) σ H s :=
  I.pins_of fun p hp => (List.mem_append.mp hp).elim (fun z => I.pin p (List.mem_append_right _ z)) fun z => by
    obtain ⟨hb, e⟩ := of_pinsAt z
    obtain ⟨f0, f1, f2, _⟩ := hf p.1 hb
    obtain ⟨o, e', d⟩ := ho p.1 hb
    rw [e] at e'; cases e'
    exact ⟨e, f0, f1, f2, d⟩
theorem Inv.unpinned {pins pl : List (Addr × Obj)} {σ : St} {H : Hp} {s : Shared} (I : Inv X (pins ++ pl) σ H s) : Inv X pins σ H s := I.pins_of fun p hp => I.pin p (List.mem_append_right _ (List.mem_append_left _ hp))
theorem ps_for {iter : Expr} {body : List Stmt} {wi : TI} {g : TG} {tb : TS} {pos : Pos} (hp : PassesOwn (model X.prog X.w) X.A X.env X.xe) (hc : X.calm = true) (hi : PI X tg iter wi) (hg : PG X tg g) (hb : PSs X body tb)
    (hs : ∀ x, foldedSetIterable iter X.env x = pure x := by intro _; rfl) : PS X (.For tg iter body [] pos) (tFor wi g tb) := by
  intro pins s σ H D I h
  refine wpAny_For (thn (hi pins s σ H _ I h) fun v s1 h1 => thn h1 fun itv s2 h2 => ?_) hs
  obtain ⟨it, fp, tn, J, H2, e, I2, T, st2, f2, W, ⟨m0, w0⟩, turn⟩ := h2
  subst e
  have stat : ∀ {H' : Hp}, (∀ b ∈ fp, H' b = none) → ∀ b ∈ fp, FpOk X pins H' b := fun hn b hb => ⟨hn b hb, (f2 b hb).2⟩
  refine codeAny_forLoop_any (fun n s' => ∃ i σ' H', Inv X pins σ' H' s' ∧ tn i s'.heap ∧ (∀ b ∈ fp, H' b = none) ∧ W i n σ' H') ?_ m0 ⟨0, σ, H2, I2, st2, fun b hb => (f2 b hb).1, w0⟩
  rintro n s3 ⟨i, σ3, H3, I3, st3, fr3, w3⟩
  rcases turn i n σ3 H3 w3 with ⟨stop, qn⟩ | ⟨go, N, hN, step⟩
  · refine wpAny_passesOwn hp (thn (T.done X rfl rfl rfl hc i pins s3 σ3 H3 X.xe I3 (stat fr3) st3 stop) fun r s4 ⟨hr, I4⟩ => ?_)
    subst hr
    exact wpAny_execs_nil ⟨σ3, H3, I4, qn⟩
  · refine wpAny_passesOwn hp (thn (T.item X rfl rfl rfl hc i pins s3 σ3 H3 X.xe I3 (stat fr3) st3 go) fun r s4 ⟨u, hr, h4⟩ => ?_)
    subst hr
    refine wpAny_passesOwn hp (thn h4 fun _ s5 ⟨x, H5, I5, r5, y5, st5, fr5⟩ => ?_)
    have I5' := I5.pinned (stat fr5) (T.obj _ _ st5)
    refine wpAny_passesOwn hp (thn (hg _ s5 σ3 H5 x u _ I5' r5 (step x H5 y5)) fun _ s6 ⟨σ6, H6, I6, q6⟩ => ?_)
    refine wpAny_passesOwn hp (thn (hb _ s6 σ6 H6 _ I6 q6) fun f s7 q7 => ?_)
    have again : ∀ {σ7 : St} {H7 : Hp}, Inv X (pins ++ pinsAt fp s5.heap) σ7 H7 s7 → N σ7 H7 → ∃ m, m < n ∧ ∃ i σ' H', Inv X pins σ' H' s7 ∧ tn i s7.heap ∧ (∀ b ∈ fp, H' b = none) ∧ W i m σ' H' := fun {σ7 H7} I7 n7 => by
      obtain ⟨m', hm, w7⟩ := hN σ7 H7 n7
      refine ⟨m', hm, i + 1, σ7, H7, I7.unpinned, T.keep _ _ _ st5 fun b hb o e => (I7.pin (b, o) (List.mem_append_right _ (List.mem_append_right _ (mem_pinsAt hb e)))).1, fun b hb => ?_, w7⟩
      obtain ⟨o, e, d⟩ := T.obj _ _ st5 b hb
      exact (I7.pin (b, o) (List.mem_append_right _ (List.mem_append_right _ (mem_pinsAt hb e)))).2.1
    cases f with
    | next => obtain ⟨σ7, H7, I7, n7⟩ := q7; exact again I7 n7
    | cont => obtain ⟨σ7, H7, I7, n7⟩ := q7; exact again I7 n7
    | brk => obtain ⟨σ7, H7, I7, q7⟩ := q7; exact ⟨σ7, H7, I7.unpinned, q7⟩
    | ret v => obtain ⟨x7, σ7, H7, I7, r7, q7⟩ := q7; exact ⟨x7, σ7, H7, I7.unpinned, r7, q7⟩
end
theorem for_list {K : PySem.W.Frag} {a : Addr} {xs : List V} {g : TG} {tb : TS} {D : Ends} {σ : St} {H : Hp} (Pv : Nat → St → Hp → Prop) (h0 : Pv 0 σ H) (hl : ∀ i σ H, i ≤ xs.length → Pv i σ H → SqL K H a xs)
    (hs : ∀ i x σ H, xs[i]? = some x → Pv i σ H → g x σ H fun σ2 H2 => tb { D with nx := Pv (i + 1), ct := Pv (i + 1), bk := D.nx } σ2 H2) (hd : ∀ σ H, Pv xs.length σ H → D.nx σ H) :
    ∃ W : Nat → Nat → St → Hp → Prop, (∃ m, W 0 m σ H) ∧ ∀ i m σ H, W i m σ H →
      ((Itl K a).stop i H ∧ D.nx σ H) ∨ ((Itl K a).go i H ∧ ∃ N : St → Hp → Prop, (∀ σ' H', N σ' H' → ∃ m', m' < m ∧ W (i + 1) m' σ' H') ∧ ∀ x H', (Itl K a).yld i H x H' → g x σ H' fun σ2 H2 => tb { D with nx := N, ct := N, bk := D.nx } σ2 H2) := by
  refine ⟨fun i m σ H => m = xs.length - i ∧ i ≤ xs.length ∧ Pv i σ H, ⟨xs.length, by simp, Nat.zero_le _, h0⟩, ?_⟩
  rintro i m σ H ⟨rfl, hi, p⟩
  have q := hl i σ H hi p
  by_cases hlt : i < xs.length
  · refine .inr ⟨⟨xs, xs[i], q, by simp [hlt]⟩, Pv (i + 1), fun σ' H' p' => ⟨xs.length - (i + 1), by omega, rfl, hlt, p'⟩, fun x H' y => ?_⟩
    obtain ⟨e, y⟩ := y
    subst e
    exact hs i x σ _ (y xs q) p
  · have e : i = xs.length := by omega
    subst e
    exact .inl ⟨⟨xs, q, Nat.le_refl _⟩, hd σ H p⟩
theorem for_range {lo : Int} {n : Nat} {g : TG} {tb : TS} {D : Ends} {σ : St} {H : Hp} (Pv : Nat → St → Hp → Prop) (h0 : Pv 0 σ H)
    (hs : ∀ i σ H, i < n → Pv i σ H → g (.int (lo + i)) σ H fun σ2 H2 => tb { D with nx := Pv (i + 1), ct := Pv (i + 1), bk := D.nx } σ2 H2) (hd : ∀ σ H, Pv n σ H → D.nx σ H) :
    ∃ W : Nat → Nat → St → Hp → Prop, (∃ m, W 0 m σ H) ∧ ∀ i m σ H, W i m σ H →
      ((Itr lo n).stop i H ∧ D.nx σ H) ∨ ((Itr lo n).go i H ∧ ∃ N : St → Hp → Prop, (∀ σ' H', N σ' H' → ∃ m', m' < m ∧ W (i + 1) m' σ' H') ∧ ∀ x H', (Itr lo n).yld i H x H' → g x σ H' fun σ2 H2 => tb { D with nx := N, ct := N, bk := D.nx } σ2 H2) := by
  refine ⟨fun i m σ H => m = n - i ∧ i ≤ n ∧ Pv i σ H, ⟨n, by simp, Nat.zero_le _, h0⟩, ?_⟩
  rintro i m σ H ⟨rfl, hi, p⟩
  by_cases hlt : i < n
  · refine .inr ⟨hlt, Pv (i + 1), fun σ' H' p' => ⟨n - (i + 1), by omega, rfl, hlt, p'⟩, fun x H' y => ?_⟩
    obtain ⟨e, y⟩ := y
    subst e y
    exact hs i σ _ hlt p
  · have e : i = n := by omega
    subst e
    exact .inl ⟨Nat.le_refl _, hd σ H p⟩
end L2
namespace L2
open PySem PySem.Spec PyProof.Rows
abbrev R2 := V → V → Hp → VK → Prop
def OpR (X : Cx) (f : Value → Value → Sem Value) (r : R2) : Prop :=
  ∀ (pins : List (Addr × Obj)) (s : Shared) (σ : St) (H : Hp) (x y : V) (v u : Value) (Q : VK), Inv X pins σ H s → RelV x v → RelV y u → r x y H Q →
    wpAny (model X.prog X.w) X.A (f v u) (EP X pins σ Q) X.xe s
def UnR (X : Cx) (f : Value → Sem Value) (r : V → Hp → VK → Prop) : Prop :=
  ∀ (pins : List (Addr × Obj)) (s : Shared) (σ : St) (H : Hp) (x : V) (v : Value) (Q : VK), Inv X pins σ H s → RelV x v → r x H Q →
    wpAny (model X.prog X.w) X.A (f v) (EP X pins σ Q) X.xe s
def CallR (X : Cx) (f : Value) (r : List V → Hp → VK → Prop) : Prop :=
  ∀ (pins : List (Addr × Obj)) (s : Shared) (σ : St) (H : Hp) (xs : List V) (us : List Value) (Q : VK), Inv X pins σ H s → Vals xs us → r xs H Q →
    wpAny (model X.prog X.w) X.A (call f us) (EP X pins σ Q) X.xe s
def TruR (X : Cx) (r : V → Hp → (Bool → Hp → Prop) → Prop) : Prop :=
  ∀ (pins : List (Addr × Obj)) (s : Shared) (σ : St) (H : Hp) (x : V) (v : Value) (Q : Bool → Hp → Prop), Inv X pins σ H s → RelV x v → r x H Q →
    wpAny (model X.prog X.w) X.A (truthy v) (TP X pins σ Q) X.xe s
def tOp (r : R2) (ta tb : TE) : TE := fun σ H Q => ta σ H fun x H1 => tb σ H1 fun y H2 => r x y H2 Q
def tUn (r : V → Hp → VK → Prop) (ta : TE) : TE := fun σ H Q => ta σ H fun x H1 => r x H1 Q
def rI (C : Int → Int → Prop) (g : Int → Int → V) : R2 := fun x y H Q => ∃ i j, x = .int i ∧ y = .int j ∧ C i j ∧ Q (g i j) H
def rI0 (g : Int → Int → V) : R2 := fun x y H Q => ∃ i j, x = .int i ∧ y = .int j ∧ Q (g i j) H
def rU (g : Int → V) : V → Hp → VK → Prop := fun x H Q => ∃ i, x = .int i ∧ Q (g i) H
section
variable {X : Cx} {a b c : Expr} {ta tb tc : TE} {pos : Pos}
theorem binT (ha : PE X a ta) (hb : PE X b tb) {pins : List (Addr × Obj)} {s : Shared} {σ : St} {H : Hp} {R : V → V → Hp → Prop} (I : Inv X pins σ H s)
    (h : ta σ H fun x H1 => tb σ H1 fun y H2 => R x y H2) {Q : Value → Shared → Prop} {f : Value → Value → Sem Value}
    (hf : ∀ v u s2 x y H2, Inv X pins σ H2 s2 → RelV x v → RelV y u → R x y H2 → wpAny (model X.prog X.w) X.A (f v u) Q X.xe s2) :
    wpAny (model X.prog X.w) X.A (eval a X.env) (fun v s₁ => wpAny (model X.prog X.w) X.A (eval b X.env) (fun u s₂ => wpAny (model X.prog X.w) X.A (f v u) Q X.xe s₂) X.xe s₁) X.xe s := by
  refine thn (ha pins s σ H _ I h) fun v s1 ⟨x, H1, I1, r1, q1⟩ => ?_
  refine thn (hb pins s1 σ H1 _ I1 q1) fun u s2 ⟨y, H2, I2, r2, q2⟩ => ?_
  exact hf v u s2 x y H2 I2 r1 r2 q2
theorem pe_op {op : Operator} {r : R2} (ho : OpR X (binaryOp op) r) (ha : PE X a ta) (hb : PE X b tb) : PE X (.BinOp a op b pos) (tOp r ta tb) := by
  intro pins s σ H Q I h
  exact wpAny_BinOp (binT ha hb I h fun v u s2 x y H2 I2 rx ry q => ho pins s2 σ H2 x y v u Q I2 rx ry q)
theorem pe_un {op : UnaryOp} {r : V → Hp → VK → Prop} (ho : UnR X (unaryOp op) r) (ha : PE X a ta) : PE X (.UnaryOp op a pos) (tUn r ta) := by
  intro pins s σ H Q I h
  exact UnaryOp_ (thn (ha pins s σ H _ I h) fun v s1 ⟨x, H1, I1, r1, q1⟩ => ho pins s1 σ H1 x v Q I1 r1 q1)
theorem opI {f : Value → Value → Sem Value} {C : Int → Int → Prop} {g : Int → Int → Int}
    (rule : ∀ (i j : Int) (t u : Tok) (s : Shared) (Q : Value → Shared → Prop) (E : Value → Shared → Prop), C i j → Q (.int (g i j) s.toks) { s with toks := s.toks + 1 } → wpAny (model X.prog X.w) X.A (f (.int i t) (.int j u)) Q E s) :
    OpR X f (rI C fun i j => .int (g i j)) := by
  intro pins s σ H x y v u Q I rx ry h
  obtain ⟨i, j, rfl, rfl, hc, q⟩ := h
  obtain ⟨t, rfl⟩ := rx
  obtain ⟨t', rfl⟩ := ry
  exact rule i j t t' s _ _ hc ⟨.int (g i j), H, I.tok _, ⟨_, rfl⟩, q⟩
theorem opI0 {f : Value → Value → Sem Value} {g : Int → Int → Int}
    (rule : ∀ (i j : Int) (t u : Tok) (s : Shared) (Q : Value → Shared → Prop) (E : Value → Shared → Prop), Q (.int (g i j) s.toks) { s with toks := s.toks + 1 } → wpAny (model X.prog X.w) X.A (f (.int i t) (.int j u)) Q E s) :
    OpR X f (rI0 fun i j => .int (g i j)) := by
  intro pins s σ H x y v u Q I rx ry h
  obtain ⟨i, j, rfl, rfl, q⟩ := h
  obtain ⟨t, rfl⟩ := rx
  obtain ⟨t', rfl⟩ := ry
  exact rule i j t t' s _ _ ⟨.int (g i j), H, I.tok _, ⟨_, rfl⟩, q⟩
theorem opB0 {f : Value → Value → Sem Value} {g : Int → Int → Bool}
    (rule : ∀ (i j : Int) (t u : Tok) (s : Shared) (Q : Value → Shared → Prop) (E : Value → Shared → Prop), Q (.bool (g i j)) s → wpAny (model X.prog X.w) X.A (f (.int i t) (.int j u)) Q E s) :
    OpR X f (rI0 fun i j => .bl (g i j)) := by
  intro pins s σ H x y v u Q I rx ry h
  obtain ⟨i, j, rfl, rfl, q⟩ := h
  obtain ⟨t, rfl⟩ := rx
  obtain ⟨t', rfl⟩ := ry
  exact rule i j t t' s _ _ ⟨.bl (g i j), H, I, rfl, q⟩
def CDiv (i j : Int) : Prop := 0 < j ∧ j < 1073741824
def CPow (i j : Int) : Prop := 0 ≤ j ∧ j ≤ 1000000 ∧ i.natAbs < 2 ^ 64
def CMul (i j : Int) : Prop := (-(2 ^ 64) < i ∧ i < 2 ^ 64) ∨ (-(2 ^ 64) < j ∧ j < 2 ^ 64)
theorem CMul.ok {i j : Int} (h : CMul i j) : IntMulOk i j := by
  rcases h with ⟨h1, h2⟩ | ⟨h1, h2⟩
  · exact .of_left (intBits_le_64 h1 h2)
  · exact .of_right (intBits_le_64 h1 h2)
theorem op_add : OpR X (binaryOp .Add) (rI0 fun i j => .int (i + j)) := opI0 fun _ _ _ _ _ _ _ q => add_int q
theorem op_sub : OpR X (binaryOp .Sub) (rI0 fun i j => .int (i - j)) := opI0 fun _ _ _ _ _ _ _ q => sub_int q
theorem op_mul : OpR X (binaryOp .Mult) (rI CMul fun i j => .int (i * j)) := opI fun _ _ _ _ _ _ _ hc q => mul_int q hc.ok
theorem op_mod : OpR X (binaryOp .Mod) (rI (fun _ j => 0 < j) fun i j => .int (i % j)) := opI fun i j _ _ _ _ _ hc q => by
  have h1 : (0 : Int) < j := hc
  exact mod_int' (by omega) (by rw [Int.fmod_eq_emod_of_nonneg i (by omega)]; exact q)
theorem op_pow : OpR X (binaryOp .Pow) (rI CPow fun i j => .int (i ^ j.toNat)) := opI fun _ _ _ _ _ _ _ hc q => pow_int_small hc.1 hc.2.1 hc.2.2 q
theorem unI {f : Value → Sem Value} {g : Int → Int}
    (rule : ∀ (i : Int) (t : Tok) (s : Shared) (Q : Value → Shared → Prop) (E : Value → Shared → Prop), Q (.int (g i) s.toks) { s with toks := s.toks + 1 } → wpAny (model X.prog X.w) X.A (f (.int i t)) Q E s) :
    UnR X f (rU fun i => .int (g i)) := by
  intro pins s σ H x v Q I rx h
  obtain ⟨i, rfl, q⟩ := h
  obtain ⟨t, rfl⟩ := rx
  exact rule i t s _ _ ⟨.int (g i), H, I.tok _, ⟨_, rfl⟩, q⟩
theorem un_neg : UnR X (unaryOp .USub) (rU fun i => .int (-i)) := unI fun _ _ _ _ _ q => neg_int q
end
def scal : V → V → Bool
  | .non, .non => true | .non, .int _ => true | .int _, .non => true | .non, .bl _ => true | .bl _, .non => true | .non, .str _ => true | .str _, .non => true
  | .int _, .int _ => true | .bl _, .bl _ => true | .str _, .str _ => true | .byt _, .byt _ => true
  | .int _, .str _ => true | .str _, .int _ => true | .bl _, .str _ => true | .str _, .bl _ => true
  | _, _ => false
def rEq : R2 := fun x y H Q => scal x y = true ∧ Q (.bl (decide (x = y))) H
def rNe : R2 := fun x y H Q => scal x y = true ∧ Q (.bl (!decide (x = y))) H
theorem dec_int {i j : Int} : decide (V.int i = V.int j) = (i == j) := by
  rw [Bool.eq_iff_iff]
  simp
theorem dec_bl {i j : Bool} : decide (V.bl i = V.bl j) = (i == j) := by
  rw [Bool.eq_iff_iff]
  simp
theorem dec_str {i j : Str} : decide (V.str i = V.str j) = (i == j) := by
  rw [Bool.eq_iff_iff]
  simp
theorem dec_byt {i j : Array UInt8} : decide (V.byt i = V.byt j) = (i.toList == j.toList) := by
  rw [Bool.eq_iff_iff]
  cases i
  cases j
  simp
section
variable {X : Cx} {a b c : Expr} {ta tb tc : TE} {pos : Pos}
theorem fin_bl {pins : List (Addr × Obj)} {σ : St} {H : Hp} {s : Shared} {Q : VK} {k k' : Bool} (I : Inv X pins σ H s) (q : Q (.bl k) H) (e : k = k') : EP X pins σ Q (.bool k') s := by
  subst e
  exact ⟨.bl k, H, I, rfl, q⟩
theorem op_eq : OpR X (compareOp .Eq) rEq := by
  intro pins s σ H x y v u Q I rx ry h
  obtain ⟨hs, q⟩ := h
  cases x with
  | non =>
    cases rx
    cases y with
    | non => cases ry; exact PySem.EqNone.eq_none_none (fin_bl I q (by simp))
    | bl j => cases ry; exact PySem.EqNone.eq_none_bool (fin_bl I q (by simp))
    | int j => obtain ⟨t', rfl⟩ := ry; exact PySem.EqNone.eq_none_int (fin_bl I q (by simp))
    | str j => obtain ⟨t', rfl⟩ := ry; exact PySem.EqNone.eq_none_str (fin_bl I q (by simp))
    | _ => exact absurd (show false = true from hs) Bool.false_ne_true
  | bl i =>
    cases rx
    cases y with
    | non => cases ry; exact PySem.EqNone.eq_bool_none (fin_bl I q (by simp))
    | bl j => cases ry; exact eq_bool (fin_bl I q dec_bl)
    | str j => obtain ⟨t', rfl⟩ := ry; exact PySem.EqMixed.eq_bool_str (fin_bl I q (by simp))
    | _ => exact absurd (show false = true from hs) Bool.false_ne_true
  | int i =>
    obtain ⟨t, rfl⟩ := rx
    cases y with
    | non => cases ry; exact PySem.EqNone.eq_int_none (fin_bl I q (by simp))
    | int j => obtain ⟨t', rfl⟩ := ry; exact eq_int (fin_bl I q dec_int)
    | str j => obtain ⟨t', rfl⟩ := ry; exact PySem.EqMixed.eq_int_str (fin_bl I q (by simp))
    | _ => exact absurd (show false = true from hs) Bool.false_ne_true
  | str i =>
    obtain ⟨t, rfl⟩ := rx
    cases y with
    | non => cases ry; exact PySem.EqNone.eq_str_none (fin_bl I q (by simp))
    | bl j => cases ry; exact PySem.EqMixed.eq_str_bool (fin_bl I q (by simp))
    | int j => obtain ⟨t', rfl⟩ := ry; exact PySem.EqMixed.eq_str_int (fin_bl I q (by simp))
    | str j => obtain ⟨t', rfl⟩ := ry; exact eq_str (fin_bl I q dec_str)
    | _ => exact absurd (show false = true from hs) Bool.false_ne_true
  | byt i =>
    obtain ⟨t, rfl⟩ := rx
    cases y with
    | byt j => obtain ⟨t', rfl⟩ := ry; exact PySem.W.eq_bytes (fin_bl I q dec_byt)
    | _ => exact absurd (show false = true from hs) Bool.false_ne_true
  | _ => cases y <;> exact absurd (show false = true from hs) Bool.false_ne_true
theorem op_ne : OpR X (compareOp .NotEq) rNe := by
  intro pins s σ H x y v u Q I rx ry h
  obtain ⟨hs, q⟩ := h
  cases x with
  | non =>
    cases rx
    cases y with
    | non => cases ry; exact PySem.EqNone.ne_none_none (fin_bl I q (by simp))
    | bl j => cases ry; exact PySem.EqNone.ne_none_bool (fin_bl I q (by simp))
    | int j => obtain ⟨t', rfl⟩ := ry; exact PySem.EqNone.ne_none_int (fin_bl I q (by simp))
    | str j => obtain ⟨t', rfl⟩ := ry; exact PySem.EqNone.ne_none_str (fin_bl I q (by simp))
    | _ => exact absurd (show false = true from hs) Bool.false_ne_true
  | bl i =>
    cases rx
    cases y with
    | non => cases ry; exact PySem.EqNone.ne_bool_none (fin_bl I q (by simp))
    | bl j => cases ry; exact ne_bool (fin_bl I q (congrArg not dec_bl))
    | str j => obtain ⟨t', rfl⟩ := ry; exact PySem.EqMixed.ne_bool_str (fin_bl I q (by simp))
    | _ => exact absurd (show false = true from hs) Bool.false_ne_true
  | int i =>
    obtain ⟨t, rfl⟩ := rx
    cases y with
    | non => cases ry; exact PySem.EqNone.ne_int_none (fin_bl I q (by simp))
    | int j => obtain ⟨t', rfl⟩ := ry; exact ne_int (fin_bl I q (congrArg not dec_int))
    | str j => obtain ⟨t', rfl⟩ := ry; exact PySem.EqMixed.ne_int_str (fin_bl I q (by simp))
    | _ => exact absurd (show false = true from hs) Bool.false_ne_true
  | str i =>
    obtain ⟨t, rfl⟩ := rx
    cases y with
    | non => cases ry; exact PySem.EqNone.ne_str_none (fin_bl I q (by simp))
    | bl j => cases ry; exact PySem.EqMixed.ne_str_bool (fin_bl I q (by simp))
    | int j => obtain ⟨t', rfl⟩ := ry; exact PySem.EqMixed.ne_str_int (fin_bl I q (by simp))
    | str j => obtain ⟨t', rfl⟩ := ry; exact ne_str (fin_bl I q (congrArg not dec_str))
    | _ => exact absurd (show false = true from hs) Bool.false_ne_true
  | byt i =>
    obtain ⟨t, rfl⟩ := rx
    cases y with
    | byt j => obtain ⟨t', rfl⟩ := ry; exact PySem.W.ne_bytes (fin_bl I q (congrArg not dec_byt))
    | _ => exact absurd (show false = true from hs) Bool.false_ne_true
  | _ => cases y <;> exact absurd (show false = true from hs) Bool.false_ne_true
theorem op_lt : OpR X (compareOp .Lt) (rI0 fun i j => .bl (decide (i < j))) := opB0 fun _ _ _ _ _ _ _ q => lt_int q
theorem op_le : OpR X (compareOp .LtE) (rI0 fun i j => .bl (decide (i ≤ j))) := opB0 fun _ _ _ _ _ _ _ q => le_int q
theorem op_gt : OpR X (compareOp .Gt) (rI0 fun i j => .bl (decide (j < i))) := opB0 fun _ _ _ _ _ _ _ q => gt_int q
theorem op_ge : OpR X (compareOp .GtE) (rI0 fun i j => .bl (decide (j ≤ i))) := opB0 fun _ _ _ _ _ _ _ q => ge_int q
theorem op_in_str : OpR X (compareOp .In) (fun x y H Q => ∃ i j, x = .str i ∧ y = .str j ∧ Q (.bl (!(Builtin.Str.occurrences j i 0 j.length 1).isEmpty)) H) := by
  intro pins s σ H x y v u Q I rx ry h
  obtain ⟨i, j, rfl, rfl, q⟩ := h
  obtain ⟨t, rfl⟩ := rx
  obtain ⟨t', rfl⟩ := ry
  exact in_str (fin_bl I q rfl)
theorem op_isN : OpR X (compareOp .Is) (fun x y H Q => y = .non ∧ Q (.bl (decide (x = .non))) H) := by
  intro pins s σ H x y v u Q I rx ry h
  obtain ⟨rfl, q⟩ := h
  cases ry
  refine is_none_gen (fin_bl I q ?_)
  cases x <;> first
    | (cases rx; rfl)
    | (obtain ⟨t, rfl⟩ := rx; rfl)
theorem op_notN : OpR X (compareOp .IsNot) (fun x y H Q => y = .non ∧ Q (.bl (!decide (x = .non))) H) := by
  intro pins s σ H x y v u Q I rx ry h
  obtain ⟨rfl, q⟩ := h
  cases ry
  refine isnot_none_gen (fin_bl I q ?_)
  cases x <;> first
    | (cases rx; rfl)
    | (obtain ⟨t, rfl⟩ := rx; rfl)
theorem nomark (b : Expr) {op : CmpOp} (h : op ≠ .In := by decide) (h2 : op ≠ .NotIn := by decide) : behindInMarks op b = false := by
  have e1 : (op == CmpOp.In) = false := by cases op <;> first | rfl | exact absurd rfl h
  have e2 : (op == CmpOp.NotIn) = false := by cases op <;> first | rfl | exact absurd rfl h2
  cases b <;> simp [behindInMarks, e1, e2]
theorem pe_cmpR {op : CmpOp} {r : R2} (ho : OpR X (compareOp op) r) (ha : PE X a ta) (hb : PE X b tb) (hm : behindInMarks op b = false) : PE X (.Compare a [op] [b] pos) (tOp r ta tb) := by
  intro pins s σ H Q I h
  exact wpAny_Compare1 (binT ha hb I h fun v u s2 x y H2 I2 rx ry q => ho pins s2 σ H2 x y v u Q I2 rx ry q) hm
def tTest (t : TE) : TT := fun σ H Q => t σ H fun x H' => ∃ k, x = .bl k ∧ Q k H'
theorem pt_cmpR {op : CmpOp} {r : R2} (ho : OpR X (compareOp op) r) (ha : PE X a ta) (hb : PE X b tb) (hm : behindInMarks op b = false) : PT X (.Compare a [op] [b] pos) (tTest (tOp r ta tb)) := by
  intro pins s σ H Q I h
  refine wpAny_isTrue_Compare1 (thn (ha pins s σ H _ I h) fun v s1 ⟨x, H1, I1, r1, q1⟩ => thn (hb pins s1 σ H1 _ I1 q1) fun u s2 ⟨y, H2, I2, r2, q2⟩ =>
    thn (ho pins s2 σ H2 x y v u _ I2 r1 r2 q2) fun c s3 ⟨z, H3, I3, r3, k, e, q3⟩ => ?_) hm
  subst e
  cases r3
  exact wpAny_truthy_bool ⟨H3, I3, q3⟩
def tChain (r r' : R2) (ta tb tc : TE) : TE := fun σ H Q => ta σ H fun x H1 => tb σ H1 fun y H2 => r x y H2 fun z H3 => ∃ k, z = .bl k ∧
  (if k = true then tc σ H3 fun w' H4 => r' y w' H4 Q else Q (.bl false) H3)
theorem pe_chain {op op' : CmpOp} {r r' : R2} (ho : OpR X (compareOp op) r) (ho' : OpR X (compareOp op') r') (ha : PE X a ta) (hb : PE X b tb) (hc : PE X c tc)
    (hm : lastMarks [op, op'] [b, c] = false := by with_unfolding_all rfl) : PE X (.Compare a [op, op'] [b, c] pos) (tChain r r' ta tb tc) := by
  intro pins s σ H Q I h
  refine Compare_chain (thn (ha pins s σ H _ I h) fun v s1 ⟨x, H1, I1, r1, q1⟩ => chain_link (thn (hb pins s1 σ H1 _ I1 q1) fun u s2 ⟨y, H2, I2, r2, q2⟩ =>
    thn (ho pins s2 σ H2 x y v u _ I2 r1 r2 q2) fun d s3 ⟨z, H3, I3, r3, k, e, q3⟩ => ?_)) hm
  subst e
  cases r3
  refine wpAny_truthy_bool ?_
  cases k with
  | false => exact ite_ff ⟨.bl false, H3, I3, rfl, q3⟩
  | true => exact ite_tt (chain_last (thn (hc pins s3 σ H3 _ I3 q3) fun w' s4 ⟨z', H4, I4, r4, q4⟩ => ho' pins s4 σ H4 y z' u w' Q I4 r2 r4 q4))
theorem pt_chain {op op' : CmpOp} {r r' : R2} (ho : OpR X (compareOp op) r) (ho' : OpR X (compareOp op') r') (ha : PE X a ta) (hb : PE X b tb) (hc : PE X c tc)
    (hm : lastMarks [op, op'] [b, c] = false := by with_unfolding_all rfl) : PT X (.Compare a [op, op'] [b, c] pos) (tTest (tChain r r' ta tb tc)) := by
  intro pins s σ H Q I h
  refine isTrue_chain (thn (ha pins s σ H _ I h) fun v s1 ⟨x, H1, I1, r1, q1⟩ => test_link (thn (hb pins s1 σ H1 _ I1 q1) fun u s2 ⟨y, H2, I2, r2, q2⟩ =>
    thn (ho pins s2 σ H2 x y v u _ I2 r1 r2 q2) fun d s3 ⟨z, H3, I3, r3, k, e, q3⟩ => ?_)) hm
  subst e
  cases r3
  refine wpAny_truthy_bool ?_
  cases k with
  | false =>
    obtain ⟨k', e', q'⟩ := q3
    cases e'
    exact ite_ff ⟨H3, I3, q'⟩
  | true =>
    refine ite_tt (test_last (thn (hc pins s3 σ H3 _ I3 q3) fun w' s4 ⟨z', H4, I4, r4, q4⟩ => thn (ho' pins s4 σ H4 y z' u w' _ I4 r2 r4 q4) fun d' s5 ⟨z2, H5, I5, r5, k2, e2, q5⟩ => ?_))
    subst e2
    cases r5
    exact wpAny_truthy_bool ⟨H5, I5, q5⟩
def TruV (K : PySem.W.Frag) (x : V) (H : Hp) (k : Bool) : Prop :=
  match x with
  | .non => k = false
  | .bl b => k = b
  | .int i => k = (i != 0)
  | .str y => y.length ≤ sizeLine ∧ k = ((y.length : Int) != 0)
  | .byt y => y.size ≤ sizeLine ∧ k = ((y.size : Int) != 0)
  | .ref p => (∃ xs, SqL K H p xs ∧ k = !xs.isEmpty) ∨ (∃ xs, SqT K H p xs ∧ k = !xs.isEmpty) ∨ ∃ kvs, H p = some (.dK kvs) ∧ k = !kvs.isEmpty
  | _ => False
theorem isEmpty_kv {κ : Type} {kvs : List (κ × V)} {vs : List (κ × Value)} (r : KV kvs vs) : (!vs.isEmpty) = !kvs.isEmpty := by
  cases r <;> rfl
theorem isEmpty_of {xs : List V} {its : List Value} (r : Vals xs its) : (!its.toArray.isEmpty) = !xs.isEmpty := by
  cases r <;> simp
theorem line63 : (sizeLine : Nat) < 2 ^ 63 := by rw [sizeLine_eq]; decide
theorem tru_ok : TruR X (fun x H Q => ∃ k, TruV X.K x H k ∧ Q k H) := by
  intro pins s σ H x v Q I rx h
  obtain ⟨k, e, q⟩ := h
  have hl := line63
  have hs : sizeLine = 16777216 := sizeLine_eq
  cases x with
  | non =>
    cases rx
    have e' : k = false := e
    subst e'
    exact truthy_none ⟨H, I, q⟩
  | bl b =>
    cases rx
    have e' : k = b := e
    subst e'
    exact wpAny_truthy_bool ⟨H, I, q⟩
  | int i =>
    obtain ⟨t, rfl⟩ := rx
    have e' : k = (i != 0) := e
    subst e'
    exact PySem.P.truthy_int ⟨H, I, q⟩
  | str y =>
    obtain ⟨t, rfl⟩ := rx
    obtain ⟨hy, e'⟩ : y.length ≤ sizeLine ∧ k = ((y.length : Int) != 0) := e
    subst e'
    exact PySem.P.truthy_str (by omega) ⟨H, I.tok _, q⟩
  | byt y =>
    obtain ⟨t, rfl⟩ := rx
    obtain ⟨hy, e'⟩ : y.size ≤ sizeLine ∧ k = ((y.size : Int) != 0) := e
    subst e'
    exact PySem.W.truthy_bytes (by omega) ⟨H, I.tok _, q⟩
  | ref p =>
    cases rx
    have e' : (∃ xs, SqL X.K H p xs ∧ k = !xs.isEmpty) ∨ (∃ xs, SqT X.K H p xs ∧ k = !xs.isEmpty) ∨ ∃ kvs, H p = some (.dK kvs) ∧ k = !kvs.isEmpty := e
    rcases e' with ⟨xs, hx, e'⟩ | ⟨xs, hx, e'⟩ | ⟨kvs, hx, e'⟩
    · subst e'
      obtain ⟨its, r, pl, hz⟩ := I.list hx
      have hlen := r.length
      exact wpAny_truthy_list pl.isList (by simp only [List.size_toArray]; omega) ⟨H, I.tok _, by rw [isEmpty_of r]; exact q⟩
    · subst e'
      obtain ⟨its, r, pl, hz⟩ := I.tuple hx
      have hlen := r.length
      exact truthy_tuple pl (by simp only [List.size_toArray]; omega) ⟨H, I.tok _, by rw [isEmpty_of r]; exact q⟩
    · subst e'
      obtain ⟨hz, hS, vs, r, m⟩ : kvs.length ≤ sizeLine ∧ (p == sysModules) = false ∧ ∃ vs, KV kvs vs ∧ s.heap.DictOf (mixKind X.prog X.w) p vs := I.hok p _ hx
      have hlen : kvs.length = vs.length := Paired.length r
      exact wpAny_truthy_dict hS m (by omega) ⟨H, I.tok _, by rw [isEmpty_kv r]; exact q⟩
  | _ => exact (show False from e).elim
theorem pt_truth (ha : PE X a ta) (he : ∀ whole, isTrue a X.env whole = (do let v ← whole; standAt a.pos; holding [v] (truthy v))) :
    PT X a (fun σ H Q => ta σ H fun x H' => ∃ k, TruV X.K x H' k ∧ Q k H') := by
  intro pins s σ H Q I h
  exact isTrue_plain (thn (ha pins s σ H _ I h) fun v s1 ⟨x, H1, I1, r1, q1⟩ => tru_ok pins s1 σ H1 x v Q I1 r1 q1) (he _)
theorem op_add_str : OpR X (binaryOp .Add) (fun x y H Q => ∃ i j, x = .str i ∧ y = .str j ∧ i.length + j.length ≤ sizeLine ∧ Q (.str (i ++ j)) H) := by
  intro pins s σ H x y v u Q I rx ry h
  obtain ⟨i, j, rfl, rfl, hz, q⟩ := h
  obtain ⟨t, rfl⟩ := rx
  obtain ⟨t', rfl⟩ := ry
  exact add_str (fun t' tk => ⟨.str (i ++ j), H, I.tok _, ⟨_, rfl⟩, q⟩) hz
theorem vals1 {x : V} {us : List Value} (r : Vals [x] us) : ∃ u, us = [u] ∧ RelV x u := by
  cases r with
  | cons r1 r2 => cases r2; exact ⟨_, rfl, r1⟩
theorem vals2 {x y : V} {us : List Value} (r : Vals [x, y] us) : ∃ u w', us = [u, w'] ∧ RelV x u ∧ RelV y w' := by
  cases r with
  | cons r1 r2 =>
    cases r2 with
    | cons r3 r4 => cases r4; exact ⟨_, _, rfl, r1, r3⟩
theorem call_int1 : CallR X (.type "int") (fun xs H Q => (∃ i, xs = [.int i] ∧ Q (.int i) H) ∨ ∃ k, xs = [.bl k] ∧ Q (.int (if k then 1 else 0)) H) := by
  intro pins s σ H xs us Q I r h
  rcases h with ⟨i, rfl, q⟩ | ⟨k, rfl, q⟩
  · obtain ⟨u, rfl, t, rfl⟩ := vals1 r
    exact call_int_int ⟨.int i, H, I, ⟨_, rfl⟩, q⟩
  · obtain ⟨u, rfl, r1⟩ := vals1 r
    cases r1
    exact call_int_bool ⟨.int (if k then 1 else 0), H, I.tok _, ⟨_, rfl⟩, q⟩
theorem call_divmod : CallR X (.builtin "divmod") (fun xs H Q => ∃ i j, xs = [.int i, .int j] ∧ CDiv i j ∧ ∀ p, H p = none → Q (.ref p) (upd H p (.tup [.int (i / j), .int (i % j)]))) := by
  intro pins s σ H xs us Q I r h
  obtain ⟨i, j, rfl, ⟨h1, h2⟩, q⟩ := h
  obtain ⟨u, w', rfl, ⟨t, rfl⟩, ⟨t', rfl⟩⟩ := vals2 r
  refine divmod_int (by omega) ?_ (.inl (PyProof.noPylong_small (by omega)))
  rw [Int.fdiv_eq_ediv_of_nonneg i (by omega), Int.fmod_eq_emod_of_nonneg i (by omega)]
  have hn : H s.heap.objs.size = none := I.hok.fresh (Nat.le_refl _)
  refine ⟨.ref s.heap.objs.size, _, ?_, rfl, q _ hn⟩
  refine I.laid (fun b o e => Heap.get?_push_of_some _ e) (Nat.le_refl _) ⟨by simp only [List.length_cons, List.length_nil]; rw [sizeLine_eq]; decide, [.int (i / j) s.toks, .int (i % j) (s.toks + 1)], .cons ⟨_, rfl⟩ (.cons ⟨_, rfl⟩ .nil), ?_⟩
  exact ⟨_, Heap.get?_push_size s.heap rfl, rfl, 0, rfl⟩
end
end L2
namespace L2
open PySem PySem.Spec PyProof.Rows
structure ObjM (h : Heap) (x dx C : Addr) (mA : Str → Option Value) : Prop where
  obj : h.get? x = some (PySem.W.instObj C dx)
  ns : h.Ns1 dx mA
  ne : dx ≠ x
theorem lookIn_ns {h : Heap} {dx : Addr} {mA : Str → Option Value} (n : h.Ns1 dx mA) : ∃ od, h.get? dx = some od ∧ ∀ name, PySem.W.lookIn name od = some (mA name) := by
  obtain ⟨o, es, ep, ho, hd, hk, _, hm⟩ := n
  refine ⟨o, ho, fun name => ?_⟩
  have e := hm name
  unfold nsFind findBy at e
  rw [← Array.find?_toList] at e
  unfold PySem.W.lookIn
  rw [hd]
  dsimp only
  split
  · rename_i y q
    rw [q] at e
    exact congrArg some e
  · rename_i q
    rw [q] at e
    have a : es.toList.any (·.refKey) = false := by
      rw [List.any_eq_false]
      intro y hy
      obtain ⟨z, t, hkey⟩ := hk y (Array.mem_toList_iff.mp hy)
      simp [DictEntry.refKey, hkey]
    have a' : ¬ es.toList.any (·.refKey) = true := by rw [a]; exact Bool.false_ne_true
    rw [if_neg a']
    exact congrArg some e
theorem ObjM.look {h : Heap} {x dx C : Addr} {mA : Str → Option Value} (I : ObjM h x dx C mA) : ∃ od, PySem.W.InstAt h x (PySem.W.instObj C dx) C (some od) ∧ ∀ name, PySem.W.lookIn name od = some (mA name) :=
  let ⟨od, ho, hl⟩ := lookIn_ns I.ns
  ⟨od, ⟨I.obj, rfl, rfl, ho⟩, hl⟩
section
variable {prog : Program} {w : World} {A : Around} {E : Value → Shared → Prop} {s : Shared} {K : PySem.W.Frag} {x dx C f : Addr} {mA : Str → Option Value} {name : Str} {v : Value}
end
section
variable {P : Program} {w : World} {H H' : Hp} {h h' : Heap} {a C dx : Addr} {fs fs' : List (Str × V)}
theorem ins_get (hok : HOk P w H h) (e : H a = some (.ins C dx fs)) : ∃ mA, ObjM h a dx C mA ∧ (∀ f, RelO (fs.lookup f) (mA f)) ∧ PySem.Within mA (fs.map (·.1)) ∧ fs.length ≤ 1000 ∧ H dx = some (.own a) := by
  obtain ⟨d, z, ne, ob, mA, n, r, q⟩ := (show ObjOk P w H h a (.ins C dx fs) from hok a _ e)
  exact ⟨mA, ⟨ob, n, ne⟩, r, q, z, d⟩
end
structure Cls (K : PySem.W.Frag) (C : Addr) : Prop where
  pg : PySem.W.plainGet K C Str.empty = true
  hd : PySem.W.hasDictIn K C = true
  po : PySem.W.plainOver K C = true
  sa : PySem.W.findIn K (.ref C) "__setattr__" = some (some (.builtin "object.__setattr__"))
theorem Cls.get {K : PySem.W.Frag} {C : Addr} (c : Cls K C) (f : Str) : PySem.W.plainGet K C f = true := c.pg
structure Con (K : PySem.W.Frag) (C : Addr) (f : Str) (v : V) (u : Value) : Prop where
  at_ : PySem.W.findIn K (.ref C) f = some (some u)
  rel : RelV v u
  get : PySem.W.specialIn K u "__get__" = some none
  cp : PySem.W.copiedNames.contains f = false
structure Meth (K : PySem.W.Frag) (C : Addr) (m : Str) (f : Addr) : Prop where
  at_ : PySem.W.findIn K (.ref C) m = some (some (.ref f))
  fn : PySem.W.isFn K (.ref f) = true
  kp : PySem.W.keepIn K (.ref f) = true
section
variable {X : Cx} {pins : List (Addr × Obj)} {σ : St} {H : Hp} {s : Shared} {a C dx : Addr} {fs : List (Str × V)} {f : Str} {v : V} {A : Around} {E : Value → Shared → Prop}
end
section
variable {X : Cx} {o e value : Expr} {f : Str} {pos pos' tpos : Pos} {ta tv : TE}
end
section
variable {X : Cx} {pins : List (Addr × Obj)} {σ : St} {H : Hp} {s : Shared} {A : Around} {E : Value → Shared → Prop} {Q : Value → Shared → Prop} {c : Value} {b : Bool}
inductive TyOf (K : PySem.W.Frag) (H : Hp) : V → Value → Prop where
  | non : TyOf K H .non (.type "NoneType")
  | bl (x : Bool) : TyOf K H (.bl x) (.type "bool")
  | int (i : Int) : TyOf K H (.int i) (.type "int")
  | str (x : Str) : TyOf K H (.str x) (.type "str")
  | flt (x : UInt64) : TyOf K H (.flt x) (.type "float")
  | lst {a : Addr} {xs : List V} (e : H a = some (.lst xs)) : TyOf K H (.ref a) (.type "list")
  | frz {a : Addr} {o : Obj} {xs : List V} (e : H a = some (.frz o (.lst xs))) : TyOf K H (.ref a) (.type "list")
  | tup {a : Addr} {xs : List V} (e : H a = some (.tup xs)) : TyOf K H (.ref a) (.type "tuple")
  | dK {a : Addr} {kvs : List (Key × V)} (e : H a = some (.dK kvs)) : TyOf K H (.ref a) (.type "dict")
  | dT {a : Addr} {kvs : List (List Key × V)} (e : H a = some (.dT kvs)) : TyOf K H (.ref a) (.type "dict")
  | ins {a C dx : Addr} {fs : List (Str × V)} (e : H a = some (.ins C dx fs)) (cl : Cls K C) (ha : PySem.W.findIn K (.ref C) "__class__" = some (some (.builtin "object.__class__")))
      (hn : PySem.W.specialIn K (.builtin "object.__class__") "__get__" = some (some (.builtin "getset_descriptor.__get__"))) (htk : PySem.W.takesIn K (.builtin "object.__class__") = some true)
      (hm : PySem.W.mroIn K C (.type "object") = some true) : TyOf K H (.ref a) (.ref C)
theorem isinst_ok {x : V} {u t : Value} (I : Inv X pins σ H s) (rx : RelV x u) (ty : TyOf X.K H x t) (e : PySem.W.kitOne X.K t c = some b) (h : ∀ tk, Q (.bool b) { s with toks := tk }) :
    wpAny (model X.prog X.w) A (call (.builtin "isinstance") [u, c]) Q E s := by
  cases ty with
  | non => cases (show u = Value.none from rx); exact PySem.W.kia_one PySem.W.kitx_none I.kIn True.intro e (fun z => nomatch z) h
  | bl y => cases (show u = Value.bool y from rx); exact PySem.W.kia_one PySem.W.kitx_bool I.kIn True.intro e (fun z => nomatch z) h
  | int i => obtain ⟨t, q⟩ := (show ∃ t, u = Value.int i t from rx); cases q; exact PySem.W.kia_one PySem.W.kitx_int I.kIn True.intro e (fun z => nomatch z) h
  | str y => obtain ⟨t, q⟩ := (show ∃ t, u = Value.str y t from rx); cases q; exact PySem.W.kia_one PySem.W.kitx_str I.kIn True.intro e (fun z => nomatch z) h
  | flt y => obtain ⟨t, q⟩ := (show ∃ t, u = Value.float y t from rx); cases q; exact PySem.W.kia_one PySem.W.kitx_float I.kIn True.intro e (fun z => nomatch z) h
  | @lst a xs ea =>
    cases (show u = Value.ref a from rx)
    obtain ⟨_, _, n, _, h1⟩ := (show ObjOk X.prog X.w H s.heap a (.lst xs) from I.hok a _ ea)
    exact PySem.W.kia_one PySem.W.kitx_list I.kIn ⟨_, h1, rfl⟩ e (fun z => nomatch z) h
  | @frz a ob xs ea =>
    cases (show u = Value.ref a from rx)
    obtain ⟨_, _, _, n, _, h1⟩ := (show ObjOk X.prog X.w H s.heap a (.frz ob (.lst xs)) from I.hok a _ ea)
    exact PySem.W.kia_one PySem.W.kitx_list I.kIn ⟨_, h1, rfl⟩ e (fun z => nomatch z) h
  | @tup a xs ea =>
    cases (show u = Value.ref a from rx)
    obtain ⟨_, _, _, p⟩ := (show ObjOk X.prog X.w H s.heap a (.tup xs) from I.hok a _ ea)
    obtain ⟨o, h1, h2, _⟩ := p
    exact PySem.W.kia_one PySem.W.kitx_tuple I.kIn ⟨o, h1, h2⟩ e (fun z => nomatch z) h
  | @dK a kvs ea =>
    cases (show u = Value.ref a from rx)
    obtain ⟨_, _, vs, _, p⟩ := (show ObjOk X.prog X.w H s.heap a (.dK kvs) from I.hok a _ ea)
    obtain ⟨o, es, ep, h1, h2, _⟩ := p
    exact PySem.W.kia_one PySem.W.kitx_dict I.kIn ⟨o, h1, h2.1⟩ e (fun z => nomatch z) h
  | @dT a kvs ea =>
    cases (show u = Value.ref a from rx)
    obtain ⟨_, _, xs, _, o, es, ep, h1, h2, _⟩ := (show ObjOk X.prog X.w H s.heap a (.dT kvs) from I.hok a _ ea)
    exact PySem.W.kia_one PySem.W.kitx_dict I.kIn ⟨o, h1, h2.1⟩ e (fun z => nomatch z) h
  | @ins a C dx fs ea cl ha hn htk hm =>
    cases (show u = Value.ref a from rx)
    obtain ⟨mA, O, _⟩ := ins_get I.hok ea
    obtain ⟨od, J, _⟩ := O.look
    exact PySem.W.kia_one (PySem.W.kitx_own (cl.get _) cl.hd ha hn htk hm) I.kIn J e (fun z => nomatch z) h
end
end L2
namespace L2
open PySem PySem.Spec PyProof.Rows
structure Room (k : Nat) (A : Around) : Prop where
  hd : A.handled = none
  dp : A.depth + 3 * k + 5 < recursionLimit
  un : A.units + 16 * k + 200 < cLine
  gd : A.guards = some []
theorem Room.mono {j k : Nat} {A : Around} (r : Room k A) (h : j ≤ k) : Room j A := ⟨r.hd, by have := r.dp; omega, by have := r.un; omega, r.gd⟩
theorem Room.deeper {k : Nat} {A : Around} (r : Room (k + 1) A) (env : Env) : Room k (A.deeper env) :=
  ⟨r.hd, by have := r.dp; show A.depth + 1 + 3 * k + 5 < _; omega, by have := r.un; show A.units + 3 + 16 * k + 200 < _; omega, r.gd⟩
theorem Room.depth {k : Nat} {A : Around} (r : Room k A) : A.depth < recursionLimit := by have := r.dp; omega
theorem Room.units {k : Nat} {A : Around} (r : Room k A) : A.units + 64 < cLine := by have := r.un; omega
def tNil : TA := fun _ H Q => Q [] H
def tCons (ta : TE) (tr : TA) : TA := fun σ H Q => ta σ H fun x H1 => tr σ H1 fun xs H2 => Q (x :: xs) H2
section
variable {X : Cx} {e : Expr} {es : List Expr} {te : TE} {t : TA} {pos : Pos}
theorem pa_nil : PA X [] tNil := fun _ _ _ _ H Q I h => Calls.spliced_nil ⟨[], H, I, .nil, h⟩
theorem pa_cons (ha : PE X e te) (hr : PA X es t) (hs : starEach (e :: es) X.env = (false, eval e X.env) :: starEach es X.env := by rfl) : PA X (e :: es) (tCons te t) := by
  intro pos pins s σ H Q I h
  rw [hs]
  show wpAny _ _ (spliced ((false, eval e X.env) :: backTo pos (starEach es X.env))) _ _ s
  refine Calls.spliced_cons (thn (ha pins s σ H _ I h) fun u s1 ⟨x, H1, I1, r1, q1⟩ => ?_)
  exact thn (hr pos pins s1 σ H1 _ I1 q1) fun us s2 ⟨xs, H2, I2, r2, q2⟩ => ⟨x :: xs, H2, I2, .cons r1 r2, q2⟩
def tTup (t : TA) : TE := fun σ H Q => t σ H fun xs H1 => xs.length ≤ sizeLine ∧ ∀ p, H1 p = none → Q (.ref p) (upd H1 p (.tup xs))
def tLst (t : TA) : TE := fun σ H Q => t σ H fun xs H1 => xs.length ≤ sizeLine ∧ ∀ p, H1 p = none → Q (.ref p) (upd H1 p (.lst xs))
theorem pe_tup {x1} (h : PA X es t) : PE X (.Tuple es x1 pos) (tTup t) := by
  intro pins s σ H Q I hq
  refine wpAny_Tuple_spliced (thn (h pos pins s σ H _ I hq) fun us s1 ⟨xs, H1, I1, r, z, q⟩ => ⟨by rw [← r.length]; exact z, ?_⟩)
  have hf : H1 s1.heap.objs.size = none := I1.hok.fresh (Nat.le_refl _)
  refine ⟨.ref s1.heap.objs.size, upd H1 s1.heap.objs.size (.tup xs), I1.laid (t' := s1.toks) (fun b u e => Heap.get?_push_of_some _ e) (Nat.le_refl _) ?_, rfl, q _ hf⟩
  exact ⟨z, us, r, ⟨_, Heap.get?_push_size _ rfl, rfl, _, rfl⟩⟩
theorem pe_lst (h : PA X es t) : PE X (.List es pos) (tLst t) := by
  intro pins s σ H Q I hq
  refine wpAny_List_spliced (thn (h pos pins s σ H _ I hq) fun us s1 ⟨xs, H1, I1, r, z, q⟩ => ⟨by rw [← r.length]; exact z, ?_⟩)
  have hf : H1 s1.heap.objs.size = none := I1.hok.fresh (Nat.le_refl _)
  refine ⟨.ref s1.heap.objs.size, upd H1 s1.heap.objs.size (.lst xs), I1.laid (t' := s1.toks) (fun b u e => Heap.get?_push_of_some _ e) (Nat.le_refl _) ?_, rfl, q _ hf⟩
  exact ⟨z, us, 0, r, Heap.get?_push_size _ rfl⟩
end
abbrev Sp := List V → Hp → VK → XK → Prop
abbrev CXT := List Env → Hp → Shared → XK → Value → Shared → Prop
structure Env0 (P : Program) (w : World) (K : PySem.W.Frag) (mg : Str → Option Value) (base : Heap) (A : Around) (outer : List Env) (s : Shared) (H : Hp) : Prop where
  frames : A.frames = some outer
  mod : Mod K mg base
  bs : ∀ b o, base.get? b = some o → s.heap.get? b = some o ∧ H b = none
  bsz : base.objs.size ≤ s.heap.objs.size
  funs : s.heap.FunFrames base outer
  frf : ∀ b ∈ frs outer, H b = none
  hok : HOk P w H s.heap
  bare : AllBare s.gens
def CE (outer : List Env) (P : Program) (w : World) (H : Hp) (s : Shared) (Q : VK) (u : Value) (s' : Shared) : Prop :=
  ∃ v H', s'.os = s.os ∧ AllBare s'.gens ∧ Un (frs outer) [] H H' s.heap s'.heap ∧ HOk P w H' s'.heap ∧ RelV v u ∧ Q v H'
def CR (CX : CXT) (outer : List Env) (P : Program) (w : World) (H : Hp) (s : Shared) (Q : VK) (E : XK) (r : Result) (s' : Shared) : Prop :=
  match r with
  | .ok (.ret u) => CE outer P w H s Q u s'
  | .ok _ => False
  | .error e => CX outer H s E e s'
structure FnOk (P : Program) (w : World) (K : PySem.W.Frag) (mg : Str → Option Value) (base : Heap) (CX : CXT) (k : Nat) (f : Addr) (fd : FuncData) (ps : List Str) (sp : Sp) : Prop where
  len : ∀ vs H Q E, sp vs H Q E → vs.length = ps.length
  run : ∀ (A : Around) (outer : List Env) (s : Shared) (H : Hp) (args : Args) (us : List Value) (vs : List V) (Q : VK) (E : XK), Room k A → Env0 P w K mg base A outer s H → BindsTo s fd args (ps.zip us) → Vals vs us → sp vs H Q E →
    codeAny (model P w) A (.call (.ref f) args) (CR CX outer P w H s Q E) s
section
variable {X : Cx} {pins : List (Addr × Obj)} {σ : St} {H : Hp} {s s' : Shared}
theorem Inv.env0 (I : Inv X pins σ H s) : Env0 X.prog X.w X.K X.mg X.base X.A X.stack s H :=
  ⟨I.ok.frames, I.ok.mod, I.bs, Nat.le_trans I.ok.bsz I.sz, I.stack, I.stkFree, I.hok, I.bare⟩
theorem Inv.after {Q : VK} {u : Value} (I : Inv X pins σ H s) (h : CE X.stack X.prog X.w H s Q u s') : EP X pins σ Q u s' := by
  obtain ⟨v, H', os, bare, un, hok, r, q⟩ := h
  obtain ⟨hh, g, d, t, os'⟩ := s'
  obtain rfl : os' = s.os := os
  exact ⟨v, H', I.call (h' := hh) (g' := g) (d' := d) (t' := t) (ch := []) un hok bare (fun b z => absurd z (by simp)), r, q⟩
end
def tCall (sp : Sp) (dvs : List V) (E : XK) (t : TA) : TE := fun σ H Q => t σ H fun vs H1 => sp (vs ++ dvs) H1 Q E
def Binds (K : PySem.W.Frag) (fd : FuncData) (ps : List Str) (ds : List Value) : Prop :=
  ∀ (s : Shared) (us : List Value), K.In s.heap → (us ++ ds).length = ps.length → BindsTo s fd ⟨us, []⟩ (ps.zip (us ++ ds))
theorem Binds.all {K : PySem.W.Frag} {fd : FuncData} {ps : List Str} (h : ∀ us : List Value, us.length = ps.length → bindArgs fd ⟨us, []⟩ = pure (ps.zip us)) : Binds K fd ps [] := fun s us _ hl => by
  rw [List.append_nil] at hl ⊢
  exact .of_eq (h us hl)
def Passes (CX : CXT) (X : Cx) (E : XK) : Prop := ∀ (pins : List (Addr × Obj)) (σ : St) (H : Hp) (s : Shared) (e : Value) (s' : Shared), Inv X pins σ H s → CX X.stack H s E e s' → X.xe e s'
section
variable {X : Cx} {CX : CXT} {k : Nat} {f C : Addr} {fd : FuncData} {ps : List Str} {sp : Sp} {dvs : List V} {ds : List Value} {E : XK} {x m : Str} {p pos apos : Pos} {e o : Expr} {es : List Expr} {ta : TE} {t : TA}
theorem run_fn {pins : List (Addr × Obj)} {σ : St} {H : Hp} {s : Shared} {Q : VK} {us : List Value} {vs : List V} (F : FnOk X.prog X.w X.K X.mg X.base CX k f fd ps sp) (hr : Room k X.A) (hb : Binds X.K fd ps ds) (hd : Vals dvs ds) (hx : Passes CX X E)
    (I : Inv X pins σ H s) (r : Vals vs us) (h : sp (vs ++ dvs) H Q E) : wpAny (model X.prog X.w) X.A (call (.ref f) us) (EP X pins σ Q) X.xe s := by
  have r2 : Vals (vs ++ dvs) (us ++ ds) := r.append hd
  have hl : (us ++ ds).length = ps.length := by rw [← r2.length]; exact F.len _ _ _ _ h
  refine wpAny_call (codeAny_mono (F.run X.A X.stack s H ⟨us, []⟩ (us ++ ds) (vs ++ dvs) Q E hr I.env0 (hb s us I.kIn hl) r2 h) fun r s' hq => ?_)
  cases r with
  | error e => exact hx pins σ H s e s' I hq
  | ok fl =>
    cases fl with
    | ret u => exact I.after hq
    | next => exact False.elim hq
    | brk => exact False.elim hq
    | cont => exact False.elim hq
theorem pe_call (F : FnOk X.prog X.w X.K X.mg X.base CX k f fd ps sp) (hr : Room k X.A) (hg : Gl X x) (hm : X.mg x = some (.ref f)) (hk : PySem.W.keepIn X.K (.ref f) = true) (hb : Binds X.K fd ps ds) (hd : Vals dvs ds) (hx : Passes CX X E)
    (ha : PA X (e :: es) t) (hdb : (x == ("__debug__" : Str)) = false := by decide) (he : starEach (e :: es) X.env = (false, eval e X.env) :: starEach es X.env := by rfl) (hpl : (backTo pos (starEach es X.env)).any (·.1) = false := by rfl) :
    PE X (.Call (.Name x p) (e :: es) [] pos) (tCall sp dvs E t) := by
  intro pins s σ H Q I h
  refine wpAny_Call_Name_kw (ld_glob I hg hm ?_ hdb)
  refine PySem.W.callWith_K (h₀ := X.base) I.ok.mod.kin hk (thn (ha pos pins s σ H _ I h) fun us s1 ⟨vs, H1, I1, r, q⟩ => ⟨I1.kIn, ?_⟩) he hpl
  exact run_fn F hr hb hd hx I1 r q
structure Mk (K : PySem.W.Frag) (C f : Addr) : Prop where
  makes : PySem.W.makesIn K C = true
  init : PySem.W.findIn K (.ref C) "__init__" = some (some (.ref f))
  fn : PySem.W.isFn K (.ref f) = true
  kp : PySem.W.keepIn K (.ref C) = true
end
section
variable {X : Cx} {CX : CXT} {k : Nat} {f C : Addr} {fd : FuncData} {ps ks : List Str} {sp : Sp} {E : XK} {x m : Str} {p pos apos kpos : Pos} {e o : Expr} {es : List Expr} {kws : List Keyword} {te ta : TE} {t tk : TA} {nm : Option Str}
structure KBinds (K : PySem.W.Frag) (fd : FuncData) (ps ks : List Str) (g : List Value → List Value → List Value) (gV : List V → List V → List V) : Prop where
  to : ∀ (s : Shared) (us ws : List Value), K.In s.heap → (g us ws).length = ps.length → BindsTo s fd ⟨us, ks.zip ws⟩ (ps.zip (g us ws))
  rel : ∀ {vs : List V} {us : List Value} {zs : List V} {ws : List Value}, Vals vs us → Vals zs ws → Vals (gV vs zs) (g us ws)
variable {g : List Value → List Value → List Value} {gV : List V → List V → List V}
end
structure FnScope (N P : List Str) (sc : Scope) : Prop where
  kind : sc.kind = .function
  co : sc.isCoroutine = false
  gen : sc.isGenerator = false
  nd : N.Nodup
  pre : N.take P.length = P
  par : ∀ x ∈ P, sc.names.lookup x = some .local ∨ sc.names.lookup x = some .cell
  nofree : ∀ y ∈ sc.names, y.2 ≠ .free
theorem bindL_out {kindOf : Str → Option NameKind} {x : Str} : ∀ {binds : List (Str × Value)} {m : Str → Option Value}, (∀ v, (x, v) ∉ binds) → bindL kindOf binds m x = m x
  | [], _, _ => rfl
  | (n, v) :: r, m, h => by
    unfold bindL
    rw [bindL_out fun w hw => h w (List.mem_cons_of_mem _ hw)]
    split
    · have : x ≠ n := by rintro rfl; exact h v List.mem_cons_self
      simp [this]
    · rfl
theorem bindC_out {kindOf : Str → Option NameKind} {x : Str} : ∀ {binds : List (Str × Value)} {m : Str → Option Value}, (∀ v, (x, v) ∉ binds) → bindC kindOf binds m x = m x
  | [], _, _ => rfl
  | (n, v) :: r, m, h => by
    unfold bindC
    rw [bindC_out fun w hw => h w (List.mem_cons_of_mem _ hw)]
    split
    · rfl
    · have : x ≠ n := by rintro rfl; exact h v List.mem_cons_self
      simp [this]
theorem bindL_get {kindOf : Str → Option NameKind} {x : Str} {v : Value} : ∀ {P : List Str} {vs : List Value} {i : Nat} {m : Str → Option Value}, P.Nodup → P[i]? = some x → vs[i]? = some v → kindOf x = some .local →
    bindL kindOf (P.zip vs) m x = some v
  | [], _, _, _, _, h, _, _ => by simp at h
  | _ :: _, [], _, _, _, _, h, _ => by simp at h
  | p :: P, w :: vs, 0, m, nd, h1, h2, hk => by
    simp at h1 h2; subst h1; subst h2
    show bindL kindOf ((p, w) :: P.zip vs) m p = _
    unfold bindL
    rw [bindL_out fun v hv => (List.nodup_cons.mp nd).1 (List.of_mem_zip hv).1, if_pos hk]
    simp
  | p :: P, w :: vs, i + 1, m, nd, h1, h2, hk => by
    show bindL kindOf ((p, w) :: P.zip vs) m x = _
    unfold bindL
    exact bindL_get (i := i) (List.nodup_cons.mp nd).2 (by simpa using h1) (by simpa using h2) hk
theorem bindC_get {kindOf : Str → Option NameKind} {x : Str} {v : Value} : ∀ {P : List Str} {vs : List Value} {i : Nat} {m : Str → Option Value}, P.Nodup → P[i]? = some x → vs[i]? = some v → kindOf x ≠ some .local →
    bindC kindOf (P.zip vs) m x = some v
  | [], _, _, _, _, h, _, _ => by simp at h
  | _ :: _, [], _, _, _, _, h, _ => by simp at h
  | p :: P, w :: vs, 0, m, nd, h1, h2, hk => by
    simp at h1 h2; subst h1; subst h2
    show bindC kindOf ((p, w) :: P.zip vs) m p = _
    unfold bindC
    rw [bindC_out fun v hv => (List.nodup_cons.mp nd).1 (List.of_mem_zip hv).1, if_neg hk]
    simp
  | p :: P, w :: vs, i + 1, m, nd, h1, h2, hk => by
    show bindC kindOf ((p, w) :: P.zip vs) m x = _
    unfold bindC
    exact bindC_get (i := i) (List.nodup_cons.mp nd).2 (by simpa using h1) (by simpa using h2) hk
def start (N : List Str) (vs : List V) : St := vs.map some ++ List.replicate (N.length - vs.length) none
def cxOf (CX : CXT) (P : Program) (w : World) (K : PySem.W.Frag) (mg : Str → Option Value) (base : Heap) (N : List Str) (qual : Str) (scope : Scope) (f : Addr) (cd : Value) (A : Around) (outer : List Env) (s : Shared) (H : Hp) (E : XK) : Cx where
  prog := P
  w := w
  K := K
  mg := mg
  base := base
  A := A.deeper (envOfC qual scope s.heap.objs.size f cd)
  N := N
  s₀ := s
  H₀ := H
  env := envOfC qual scope s.heap.objs.size f cd
  outer := outer
  stack := envOfC qual scope s.heap.objs.size f cd :: outer
  ex := []
  calm := true
  fn := fun _ => true
  pn := []
  xe := fun e s' => wpAny (model P w) (A.deeper (envOfC qual scope s.heap.objs.size f cd)) (leaving (envOfC qual scope s.heap.objs.size f cd) e) (fun _ s'' => CX outer H s E e s'') (fun e' s'' => CX outer H s E e' s'') s'
theorem cell_has {sc : Scope} {n : Nat} {x : Str} (h : sc.names.lookup x = some .cell) : ∃ c, (cellsFrom n sc.names []).lookup x = some c := by
  have q := PySem.W.cellsFrom_some sc.names n [] (.inl h)
  exact Option.isSome_iff_exists.mp q
theorem inv_start {CX : CXT} {P : Program} {w : World} {K : PySem.W.Frag} {mg : Str → Option Value} {base : Heap} {N ps : List Str} {qual : Str} {scope : Scope} {f : Addr} {cd : Value} {A : Around} {outer : List Env} {s s1 : Shared} {H : Hp} {E : XK} {us : List Value} {vs : List V}
    (S : FnScope N ps scope) (hd : A.handled = none) (e0 : Env0 P w K mg base A outer s H) (hl : vs.length = ps.length) (r : Vals vs us)
    (x : InCallC s s.heap.objs.size (bindL (envOfC qual scope s.heap.objs.size f cd).kindOf (ps.zip us) fun _ => none) (cellsFrom (s.heap.objs.size + 1) scope.names []) (bindC (envOfC qual scope s.heap.objs.size f cd).kindOf (ps.zip us) fun _ => none) s1) :
    Inv (cxOf CX P w K mg base N qual scope f cd A outer s H E) [] (start N vs) H s1 := by
  have hpl : ps.length ≤ N.length := by have := congrArg List.length S.pre; rw [List.length_take] at this; omega
  obtain ⟨h1, tk, rfl, hk⟩ := x.done
  have noA : ∀ b : Addr, b ∉ (cxOf CX P w K mg base N qual scope f cd A outer s H E).ex := fun b z => absurd (show b ∈ ([] : List Addr) from z) (by simp)
  refine ⟨⟨e0.mod, S.kind, rfl, rfl, Nat.le_refl _, fun y z c h1 h2 => ?_, fun y hy => ?_, fun y c _ h => ?_, fun _ => hd, Around.frames_deeper e0.frames, .inr ⟨rfl, rfl⟩, fun b z => absurd z (noA b), e0.bs, e0.bsz, fun b _ _ => noA b, fun b z => absurd z (noA b), e0.funs, e0.frf⟩,
    rfl, e0.bare, Un.kept hk, ⟨_, x.toInCall.ns, fun i y v h1 h2 h3 => ?_⟩, fun y c h => ⟨_, x.cell y c h⟩, e0.hok.fresh (Nat.le_refl _), fun y c h => ?_, fun p hp => absurd (show p ∈ ([] : List (Addr × Obj)) from hp) (by simp), e0.hok.kept hk, ?_⟩
  · exact name_of_addr x.apart (PySem.mem_of_lookup h1) (PySem.mem_of_lookup h2)
  · have hy : scope.names.lookup y = some .cell ∨ scope.names.lookup y = some .free := hy
    rcases hy with hy | hy
    · exact cell_has hy
    · exact absurd rfl (S.nofree _ (PySem.mem_of_lookup hy))
  · exact Nat.le_of_lt (x.above y c (PySem.mem_of_lookup h))
  · have hi : i < vs.length := by
      unfold start at h2
      by_cases hi : i < vs.length
      · exact hi
      · rw [List.getElem?_append_right (by simpa using hi)] at h2
        rw [List.getElem?_replicate] at h2
        split at h2 <;> cases h2
    have ha : vs[i]? = some v := by
      unfold start at h2
      rw [List.getElem?_append_left (by simpa using hi), List.getElem?_map] at h2
      cases e : vs[i]? with
      | none => rw [e] at h2; cases h2
      | some a => rw [e] at h2; cases h2; rfl
    obtain ⟨u, hu, rv⟩ := r.get ha
    have hp : ps[i]? = some y := by
      rw [← S.pre, List.getElem?_take_of_lt (by omega)]; exact h1
    have ndP : ps.Nodup := by rw [← S.pre]; exact S.nd.sublist (List.take_sublist _ _)
    refine ⟨u, rv, ?_⟩
    rcases S.par y (List.mem_of_getElem? hp) with k | k
    · exact .inl ⟨k, bindL_get ndP hp hu k⟩
    · obtain ⟨c, e⟩ := cell_has (n := s.heap.objs.size + 1) k
      refine .inr ⟨.inl k, c, e, ?_⟩
      have q := x.cell y c e
      rw [bindC_get ndP hp hu (by show scope.names.lookup y ≠ _; rw [k]; decide)] at q
      exact q
  · exact e0.hok.fresh (Nat.le_of_lt (x.above y c (PySem.mem_of_lookup h)))
  · unfold start
    show _ = N.length
    rw [List.length_append, List.length_map, List.length_replicate]
    omega
theorem fn_of {CX : CXT} {P : Program} {w : World} {K : PySem.W.Frag} {mg : Str → Option Value} {base : Heap} {k : Nat} {f : Addr} {name qual : Str} {params : Arguments} {body : List Stmt} {scope : Scope} {dV kV doc pm cdv ct oc : Value} {an od : Option Addr}
    {osl : Array (Option Value)} {N ps : List Str} {sp : Sp} (lk : K.lookup f = some ⟨oc, od, .func (PySem.W.fnOf name qual params body scope dV kV doc pm an cdv ct), osl⟩) (hcd : PySem.W.codeIn K cdv qual = true) (S : FnScope N ps scope)
    (len : ∀ vs H Q E, sp vs H Q E → vs.length = ps.length)
    (hbody : ∀ (A : Around) (outer : List Env) (s : Shared) (H : Hp) (vs : List V) (Q : VK) (E : XK), Room k (A.deeper (envOfC qual scope s.heap.objs.size f cdv)) → sp vs H Q E →
      ∃ t, PSs (cxOf CX P w K mg base N qual scope f cdv A outer s H E) body t ∧ t { nx := fun _ H' => Q .non H', rt := Q } (start N vs) H) :
    FnOk P w K mg base CX (k + 1) f (PySem.W.fnOf name qual params body scope dV kV doc pm an cdv ct) ps sp := by
  refine ⟨len, fun A outer s H args us vs Q E hr e0 hb r hsp => ?_⟩
  have hl := len _ _ _ _ hsp
  have KX : K.In s.heap := e0.mod.kin.keeps fun b o e => (e0.bs b o e).1
  have lim : s.heap.NoLimit := e0.mod.nolimit.keeps fun b o e => (e0.bs b o e).1
  have hkind : ∀ y ∈ ps.zip us, scope.names.lookup y.1 = some .local ∨ (scope.names.lookup y.1 = some .cell ∧ ((cellsFrom (s.heap.objs.size + 1) scope.names []).lookup y.1).isSome = true) := fun ⟨n, v⟩ hy => by
    rcases S.par n (List.of_mem_zip hy).1 with q | q
    · exact .inl q
    · exact .inr ⟨q, PySem.W.cellsFrom_some _ _ _ (.inl q)⟩
  refine codeAny_call_function hr.depth (KX _ _ lk) rfl S.co S.gen rfl (PySem.W.codeRec_of KX hcd) (hb _ _ _ _ ?_)
  refine wpAny_newFunctionEnv_cells S.kind hkind fun env he s1 x => ?_
  subst he
  refine ⟨lim.keeps x.toInCall.keep, codeAny_func ?_⟩
  obtain ⟨t, ht, hq⟩ := hbody A outer s H vs Q E (hr.deeper _) hsp
  have I : Inv (cxOf CX P w K mg base N qual scope f cdv A outer s H E) [] (start N vs) H s1 := inv_start S hr.hd e0 hl r x
  refine wpAny_mono (ht [] s1 (start N vs) H _ I hq) (fun fl s' hs => ?_) fun e s' hs => hs
  have fin : ∀ {σ' : St} {H' : Hp} {v : V} {u : Value}, Inv (cxOf CX P w K mg base N qual scope f cdv A outer s H E) [] σ' H' s' → RelV v u → Q v H' → CE outer P w H s Q u s' :=
    fun {σ' H' v u} J rv q => ⟨v, H', J.os, J.bare, J.base, J.hok, rv, q⟩
  cases fl with
  | ret u =>
    obtain ⟨v, σ', H', J, rv, q⟩ := hs
    exact fin J rv q
  | next =>
    obtain ⟨σ', H', J, q⟩ := hs
    exact fin (v := V.non) (u := Value.none) J rfl q
  | brk =>
    obtain ⟨_, _, _, q⟩ := hs
    exact False.elim q
  | cont =>
    obtain ⟨_, _, _, q⟩ := hs
    exact False.elim q
end L2
namespace L2
open PySem PySem.Spec PyProof.Rows
section
variable {X : Cx} {x : Str} {p pos : Pos} {e : Expr} {es : List Expr} {t : TA} {id T : String} {r : List V → Hp → VK → Prop}
def tCB (r : List V → Hp → VK → Prop) (t : TA) : TE := fun σ H Q => t σ H fun vs H1 => r vs H1 Q
theorem pe_callB (hc : CallR X (.builtin id) r) (hg : Gl X x) (hm : X.mg x = none) (hv : bootBuiltins x = some (.builtin id)) (ha : PA X (e :: es) t) (hn : x ≠ "__name__" := by decide) (hdb : (x == ("__debug__" : Str)) = false := by decide)
    (he : starEach (e :: es) X.env = (false, eval e X.env) :: starEach es X.env := by rfl) (hpl : (backTo pos (starEach es X.env)).any (·.1) = false := by rfl) : PE X (.Call (.Name x p) (e :: es) [] pos) (tCB r t) := by
  intro pins s σ H Q I h
  refine wpAny_Call_Name_kw (ld_blt I hg hm hv ?_ hn hdb)
  exact PyProof.Rows.callWith_builtin1 (thn (ha pos pins s σ H _ I h) fun us s1 ⟨vs, H1, I1, r1, q1⟩ => hc pins s1 σ H1 vs us Q I1 r1 q1) he hpl
theorem pe_callTy (hc : CallR X (.type T) r) (hg : Gl X x) (hm : X.mg x = none) (hv : bootBuiltins x = some (.type T)) (ha : PA X (e :: es) t) (hn : x ≠ "__name__" := by decide) (hdb : (x == ("__debug__" : Str)) = false := by decide)
    (he : starEach (e :: es) X.env = (false, eval e X.env) :: starEach es X.env := by rfl) (hpl : (backTo pos (starEach es X.env)).any (·.1) = false := by rfl) : PE X (.Call (.Name x p) (e :: es) [] pos) (tCB r t) := by
  intro pins s σ H Q I h
  refine wpAny_Call_Name_kw (ld_blt I hg hm hv ?_ hn hdb)
  exact PyProof.Rows.callWith_type1 (thn (ha pos pins s σ H _ I h) fun us s1 ⟨vs, H1, I1, r1, q1⟩ => hc pins s1 σ H1 vs us Q I1 r1 q1) he hpl
end
end L2
namespace HT
open PySem PyProof.Rows
section
open PySem.SeqAt
open PySem.AutoSeq1 (wpAny_loadPart')
open PySem.MeetsSeq PySem.MeetsSeq2 PySem.MeetsSeq3
end
section
variable {prog : Program} {w : World} {A : Around} {E : Value → Shared → Prop} {s : Shared}
def sIx (n d : Nat) : Option Int → Nat
  | none => d
  | some v => if v < 0 then (v + (n : Int)).toNat else min v.toNat n
end
end HT
namespace L2
open PySem PySem.Spec PyProof.Rows
abbrev TO := St → Hp → (Option Int → Hp → Prop) → Prop
def PO (X : Cx) (e : Option Expr) (t : TO) : Prop :=
  ∀ (pins : List (Addr × Obj)) (s : Shared) (σ : St) (H : Hp) (Q : Option Int → Hp → Prop), Inv X pins σ H s → t σ H Q →
    wpAny (model X.prog X.w) X.A (evalPart e X.env) (fun u s' => ∃ o H', Inv X pins σ H' s' ∧ IsPart u o ∧ Q o H') X.xe s
def tNoPart : TO := fun _ H Q => Q none H
def tPart (t : TE) : TO := fun σ H Q => t σ H fun x H1 => ∃ i, x = .int i ∧ Q (some i) H1
section
variable {X : Cx} {e : Expr} {te : TE} {lo hi : Option Expr} {tl th : TO} {pos p2 : Pos}
theorem po_none : PO X none tNoPart := by
  intro pins s σ H Q I h
  rw [evalPart_none]
  exact wpAny_pure ⟨none, H, I, .none, h⟩
theorem po_some (h : PE X e te) : PO X (some e) (tPart te) := by
  intro pins s σ H Q I hw
  rw [evalPart_some]
  refine thn (h pins s σ H _ I hw) fun u s1 ⟨x, H1, I1, r1, q1⟩ => ?_
  obtain ⟨i, rfl, q⟩ := q1
  obtain ⟨t, rfl⟩ := r1
  exact ⟨some i, H1, I1, .int i t, q⟩
def SlR (X : Cx) (r : V → Option Int → Option Int → Hp → VK → Prop) : Prop :=
  ∀ (pins : List (Addr × Obj)) (s : Shared) (σ : St) (H : Hp) (x : V) (v vl vu : Value) (lo hi : Option Int) (sl : Addr) (Q : VK), Inv X pins σ H s → RelV x v → s.heap.IsSliceOf sl vl vu .none → IsPart vl lo → IsPart vu hi → r x lo hi H Q →
    ∃ T id, typeLookup (.type T) "__getitem__" = pure (some (.builtin id)) ∧ s.TypeIs v T ∧ wpAny (model X.prog X.w) X.A (getItem v (.ref sl)) (EP X pins σ Q) X.xe s
def tSl (r : V → Option Int → Option Int → Hp → VK → Prop) (te : TE) (tl th : TO) : TE := fun σ H Q => te σ H fun x H1 => tl σ H1 fun l H2 => th σ H2 fun u H3 => r x l u H3 Q
theorem pe_slice {r : V → Option Int → Option Int → Hp → VK → Prop} (hr : SlR X r) (he : PE X e te) (hl : PO X lo tl) (hu : PO X hi th) : PE X (.Subscript e (.Slice lo hi none p2) pos) (tSl r te tl th) := by
  intro pins s σ H Q I h
  refine Subscript_ (thn (he pins s σ H _ I h) fun v s1 ⟨x, H1, I1, r1, q1⟩ => ?_)
  refine wpAny_Slice (thn (hl pins s1 σ H1 _ I1 q1) fun vl s2 ⟨l, H2, I2, pl, q2⟩ => thn (hu pins s2 σ H2 _ I2 q2) fun vu s3 ⟨u, H3, I3, pu, q3⟩ => ?_)
  rw [evalPart_none]
  refine wpAny_pure ?_
  have I4 : Inv X pins σ H3 { s3 with heap := s3.heap.push { cls := .type "slice", data := .fields #[vl, vu, .none] } } := I3.kept (t' := s3.toks) fun b ob q => Heap.get?_push_of_some _ q
  obtain ⟨T, id, hT, ht, hg⟩ := hr pins { s3 with heap := s3.heap.push { cls := .type "slice", data := .fields #[vl, vu, .none] } } σ H3 x v vl vu l u s3.heap.objs.size Q I4 r1 (Heap.IsSliceOf.new ..) pl pu q3
  show wpAny (model X.prog X.w) X.A (subscriptTail e (.Slice lo hi none p2) v (.ref s3.heap.objs.size)) (EP X pins σ Q) X.xe { s3 with heap := s3.heap.push { cls := .type "slice", data := .fields #[vl, vu, .none] } }
  exact tail_any (ops := [.ref s3.heap.objs.size, v]) ht hT hg (by with_unfolding_all rfl)
def cutV (xs : List V) (lo hi : Option Int) : List V := (xs.drop (HT.sIx xs.length 0 lo)).take (HT.sIx xs.length xs.length hi - HT.sIx xs.length 0 lo)
theorem cutV_length (xs : List V) (lo hi : Option Int) : (cutV xs lo hi).length ≤ xs.length := by
  unfold cutV
  rw [List.length_take, List.length_drop]
  omega
end
end L2
namespace L2
open PySem PySem.Spec PyProof.Rows
def ixN (n : Nat) (i : Int) : Option Nat := if 0 ≤ i then (if i < n then some i.toNat else none) else if -(n : Int) ≤ i then some (i + n).toNat else none
def atI {α : Type} (xs : List α) (i : Int) : Option α := (ixN xs.length i).bind fun j => xs[j]?
theorem ixN_seq {n : Nat} {i : Int} {j : Nat} (h : ixN n i = some j) : seqIndex? i n = some j ∧ j < n ∧ -(n : Int) ≤ i ∧ i < n := by
  unfold ixN at h
  by_cases h0 : 0 ≤ i
  · rw [if_pos h0] at h
    by_cases h1 : i < n
    · rw [if_pos h1] at h
      have e : i.toNat = j := Option.some.inj h
      exact ⟨by rw [seqIndex_of h0 h1, e], by omega, by omega, h1⟩
    · rw [if_neg h1] at h; cases h
  · rw [if_neg h0] at h
    by_cases h1 : -(n : Int) ≤ i
    · rw [if_pos h1] at h
      have e : (i + n).toNat = j := Option.some.inj h
      exact ⟨by rw [seqIndex_neg (by omega) h1, e], by omega, h1, by omega⟩
    · rw [if_neg h1] at h; cases h
theorem atI_get {α : Type} {xs : List α} {i : Int} {v : α} (h : atI xs i = some v) : ∃ j, seqIndex? i xs.length = some j ∧ xs[j]? = some v ∧ j < xs.length ∧ -(xs.length : Int) ≤ i ∧ i < xs.length := by
  unfold atI at h
  cases e : ixN xs.length i with
  | none => rw [e] at h; cases h
  | some j =>
    rw [e] at h
    obtain ⟨h1, h2, h3, h4⟩ := ixN_seq e
    exact ⟨j, h1, h, h2, h3, h4⟩
theorem atI_nat {α : Type} {xs : List α} {j : Nat} {v : α} (h : xs[j]? = some v) : atI xs (j : Int) = some v := by
  have hj : j < xs.length := (List.getElem?_eq_some_iff.mp h).1
  have e : ixN xs.length (j : Int) = some j := by
    unfold ixN
    rw [if_pos (by omega), if_pos (by omega)]; simp
  unfold atI; rw [e]; exact h
def PlainIx (b : Expr) : Prop := ∀ o i, subscripted b false o i = operate [o, i] (getItem o i)
def IxR (X : Cx) (r : R2) : Prop :=
  ∀ (value slice : Expr) (pins : List (Addr × Obj)) (s : Shared) (σ : St) (H : Hp) (x y : V) (v u : Value) (Q : VK), Inv X pins σ H s → RelV x v → RelV y u → r x y H Q →
    subscripted slice false v u = operate [v, u] (getItem v u) → wpAny (model X.prog X.w) X.A (subscriptTail value slice v u) (EP X pins σ Q) X.xe s
def MtR (X : Cx) (id : String) (r : V → List V → Hp → VK → Prop) : Prop :=
  ∀ (pins : List (Addr × Obj)) (s : Shared) (σ : St) (H : Hp) (x : V) (xs : List V) (v : Value) (us : List Value) (Q : VK), Inv X pins σ H s → RelV x v → Vals xs us → r x xs H Q →
    wpAny (model X.prog X.w) X.A (call (.builtin id) (v :: us)) (EP X pins σ Q) X.xe s
section
variable {X : Cx} {a b : Expr} {ta tb : TE} {pos : Pos}
theorem pe_ix {r : R2} (hr : IxR X r) (ha : PE X a ta) (hb : PE X b tb) (hs : PlainIx b) : PE X (.Subscript a b pos) (tOp r ta tb) := by
  intro pins s σ H Q I h
  exact Subscript_ (binT ha hb I h fun v u s2 x y H2 I2 rx ry q => hr a b pins s2 σ H2 x y v u Q I2 rx ry q (hs _ _))
def rIxL (K : PySem.W.Frag) : R2 := fun x y H Q => ∃ p xs i v, x = .ref p ∧ y = .int i ∧ SqL K H p xs ∧ atI xs i = some v ∧ Q v H
def rIxT (K : PySem.W.Frag) : R2 := fun x y H Q => ∃ p xs i v, x = .ref p ∧ y = .int i ∧ SqT K H p xs ∧ atI xs i = some v ∧ Q v H
def rIxS : R2 := fun x y H Q => ∃ z i c, x = .str z ∧ y = .int i ∧ z.length ≤ sizeLine ∧ atI z.cps.toList i = some c ∧ Q (.str ⟨#[c]⟩) H
theorem ix_list : IxR X (rIxL X.K) := by
  intro value slice pins s σ H x y v u Q I rx ry h hs
  obtain ⟨p, xs, i, z, rfl, rfl, hq, he, q⟩ := h
  cases rx
  obtain ⟨t, rfl⟩ := ry
  obtain ⟨its, r, pl, hz⟩ := I.list hq
  obtain ⟨j, h1, h2, h3, h4, h5⟩ := atI_get he
  obtain ⟨w, ew, rw'⟩ := r.get h2
  have hl := r.length
  have hn := line63
  have fin : EP X pins σ Q w s := ⟨z, H, I, rw', q⟩
  by_cases h0 : 0 ≤ i
  · have hj : i.toNat = j := by
      rw [seqIndex_of h0 h5] at h1
      exact Option.some.inj h1
    exact item_listR pl.isList h0 (by omega) (by rw [hj]; simpa using ew) fin hs
  · have hj : (i + (its.toArray.size : Int)).toNat = j := by
      rw [seqIndex_neg (by omega) h4] at h1
      rw [List.size_toArray, ← hl]
      exact Option.some.inj h1
    exact subscriptTail_builtinR (x := w) pl.isList.typeIs slot_list_getitem.lookup
      (wpAny_getItem_list_neg (Q := fun r s' => r = w ∧ EP X pins σ Q r s') pl.isList (by omega) (by rw [List.size_toArray] <;> omega) (by omega) (by rw [hj]; simpa using ew) ⟨rfl, fin⟩) hs
theorem ix_tup : IxR X (rIxT X.K) := by
  intro value slice pins s σ H x y v u Q I rx ry h hs
  obtain ⟨p, xs, i, z, rfl, rfl, hq, he, q⟩ := h
  cases rx
  obtain ⟨t, rfl⟩ := ry
  obtain ⟨its, r, pl, hz⟩ := I.tuple hq
  obtain ⟨j, h1, h2, h3, h4, h5⟩ := atI_get he
  obtain ⟨w, ew, rw'⟩ := r.get h2
  have hl := r.length
  have hn := line63
  have fin : EP X pins σ Q w s := ⟨z, H, I, rw', q⟩
  exact subscriptTail_builtinR (x := w) pl.typeIs slot_tuple_getitem.lookup
    (getItem_tuple (j := j) (Q := fun r s' => r = w ∧ EP X pins σ Q r s') pl (by omega) (by omega) (by rw [List.size_toArray, ← hl]; exact h1) (by simpa using ew) ⟨rfl, fin⟩) hs
theorem ix_str : IxR X rIxS := by
  intro value slice pins s σ H x y v u Q I rx ry h hs
  obtain ⟨z, i, c, rfl, rfl, hz, he, q⟩ := h
  obtain ⟨t, rfl⟩ := rx
  obtain ⟨t', rfl⟩ := ry
  obtain ⟨j, h1, h2, h3, h4, h5⟩ := atI_get he
  have hl : z.cps.toList.length = z.length := by simp [Str.length]
  rw [hl] at h1 h4 h5
  have hn := line63
  exact tail_any (typeIs_str s z t) slot_str_getitem.lookup (getItem_str (c := c) (by
    have e1 : decide (i < -(2 ^ 63 : Int)) = false := decide_eq_false (by omega)
    have e2 : decide (i ≥ 2 ^ 63) = false := decide_eq_false (by omega)
    rw [e1, e2, Bool.or_false]) (by rw [h1]; simpa using h2) ⟨.str ⟨#[c]⟩, H, I.tok _, ⟨_, rfl⟩, q⟩) hs
theorem mapSeq_set (its : List Value) (n j : Nat) (u : Value) : Obj.mapSeq (·.setIfInBounds j u) { cls := .type "list", data := .seq its.toArray n } = { cls := .type "list", data := .seq (its.set j u).toArray n } := by
  simp [Obj.mapSeq]
theorem Inv.lst {pins : List (Addr × Obj)} {σ : St} {H : Hp} {s : Shared} {p : Addr} {xs : List V} (I : Inv X pins σ H s) (h : H p = some (.lst xs)) :
    ∃ (its : List Value) (n : Nat), Vals xs its ∧ s.heap.get? p = some { cls := .type "list", data := .seq its.toArray n } ∧ xs.length ≤ sizeLine := by
  obtain ⟨z, its, n, r, e⟩ := I.hok p _ h
  exact ⟨its, n, r, e, z⟩
theorem Inv.lstUpd {pins : List (Addr × Obj)} {σ : St} {H : Hp} {s : Shared} {p : Addr} {xs ys : List V} {its its' : List Value} {n n' : Nat} {f : Obj → Obj} (I : Inv X pins σ H s) (h : H p = some (.lst xs))
    (ho : s.heap.get? p = some { cls := .type "list", data := .seq its.toArray n }) (hf : f { cls := .type "list", data := .seq its.toArray n } = { cls := .type "list", data := .seq its'.toArray n' }) (r : Vals ys its') (hz : ys.length ≤ sizeLine) (t : Nat) :
    Inv X pins σ (upd H p (.lst ys)) { s with heap := s.heap.update p f, toks := t } := by
  have e : (s.heap.update p f).get? p = some { cls := .type "list", data := .seq its'.toArray n' } := by
    rw [Heap.get?_update_self f ho (by rw [hf] <;> rfl), hf]
  refine I.write (x := p) (e := p) (by rw [h]; trivial) (.inl rfl) (fun b u hb q => (Heap.get?_update_other _ _ (Ne.symm hb)).trans q) ⟨_, e⟩ ?_
  exact ⟨hz, its', n', r, e⟩
def rSetL : V → V → V → Hp → (Hp → Prop) → Prop := fun o i v H Q => ∃ p xs k j, o = .ref p ∧ i = .int k ∧ H p = some (.lst xs) ∧ ixN xs.length k = some j ∧ Q (upd H p (.lst (xs.set j v)))
theorem set_list : PSet X rSetL := by
  intro pins s σ H o i v ov iv u Q I ro ri rv h
  obtain ⟨p, xs, k, j, rfl, rfl, hp, hj, q⟩ := h
  cases ro
  obtain ⟨t, rfl⟩ := ri
  obtain ⟨its, n, r, ho, hz⟩ := I.lst hp
  obtain ⟨h1, h2, h3, h4⟩ := ixN_seq hj
  have hl := r.length
  have hn := line63
  have I' : Inv X pins σ (upd H p (.lst (xs.set j v))) { s with heap := s.heap.update p (Obj.mapSeq (·.setIfInBounds j u)) } :=
    I.lstUpd hp ho (mapSeq_set its n j u) (r.set rv j) (by rw [List.length_set]; exact hz) s.toks
  by_cases h0 : 0 ≤ k
  · have hk : k.toNat = j := by
      rw [seqIndex_of h0 h4] at h1
      exact Option.some.inj h1
    exact PySem.W.ki_setAt ho h0 (by omega) (by rw [List.size_toArray, ← hl]; exact h4) (by rw [hk]; exact ⟨_, I', q⟩)
  · have hk : (k + (its.toArray.size : Int)).toNat = j := by
      rw [seqIndex_neg (by omega) h3] at h1
      rw [List.size_toArray, ← hl]
      exact Option.some.inj h1
    exact PySem.W.ki_setBack ho (by omega) (by rw [List.size_toArray, ← hl]; exact h3) (by omega) (by rw [hk]; exact ⟨_, I', q⟩)
theorem slice_bounds (lo hi : Option Int) (n : Nat) : (sliceBounds lo hi none n).1 = ((HT.sIx n 0 lo : Nat) : Int) ∧ (sliceBounds lo hi none n).2.1 = ((HT.sIx n n hi : Nat) : Int) ∧ (sliceBounds lo hi none n).2.2 = 1 := by
  refine ⟨?_, ?_, rfl⟩
  · cases lo with
    | none => simp [sliceBounds, HT.sIx]
    | some i =>
      simp only [sliceBounds, HT.sIx, Option.getD_none, show (1 : Int) > 0 by decide, if_true]
      by_cases h : i < 0
      · simp only [h, if_true] <;> omega
      · simp only [h, if_false] <;> omega
  · cases hi with
    | none => simp [sliceBounds, HT.sIx]
    | some i =>
      simp only [sliceBounds, HT.sIx, Option.getD_none, show (1 : Int) > 0 by decide, if_true]
      by_cases h : i < 0
      · simp only [h, if_true] <;> omega
      · simp only [h, if_false] <;> omega
theorem slicePick_cut (its : List Value) (lo hi : Option Int) : slicePick its.toArray lo hi none = ((its.drop (HT.sIx its.length 0 lo)).take (HT.sIx its.length its.length hi - HT.sIx its.length 0 lo)).toArray := by
  obtain ⟨h1, h2, h3⟩ := slice_bounds lo hi its.toArray.size
  unfold slicePick
  rw [h1, h2, h3]
  simp only [sliceRange_one, pick_run, List.size_toArray] <;> rfl
def rSlL (K : PySem.W.Frag) : V → Option Int → Option Int → Hp → VK → Prop := fun x lo hi H Q => ∃ a xs, x = .ref a ∧ SqL K H a xs ∧ ∀ p, H p = none → Q (.ref p) (upd H p (.lst (cutV xs lo hi)))
theorem sl_list : SlR X (rSlL X.K) := by
  intro pins s σ H x v vl vu lo hi sl Q I rx hs pl pu h
  obtain ⟨a, xs, rfl, hx, q⟩ := h
  cases rx
  obtain ⟨its, r, ht, hz⟩ := I.list hx
  have hlen := r.length
  refine ⟨"list", _, slot_list_getitem.lookup, ht.isList.typeIs, ?_⟩
  refine wpAny_getItem_list_slice ht.isList hs pl pu .none (by simp) ?_ (by rw [List.size_toArray] <;> omega)
  rw [slicePick_cut, ← hlen]
  refine ⟨.ref s.heap.objs.size, _, I.laid (t' := s.toks) (o := .lst (cutV xs lo hi)) (fun b ob q => Heap.get?_push_of_some _ q) (Nat.le_refl _) ?_, rfl, q _ (I.hok.fresh (Nat.le_refl _))⟩
  exact ⟨Nat.le_trans (cutV_length xs lo hi) hz, _, 0, (r.drop (HT.sIx xs.length 0 lo)).take (HT.sIx xs.length xs.length hi - HT.sIx xs.length 0 lo), Heap.get?_push_size _ rfl⟩
def flatV : V → Bool
  | .non => true
  | .bl _ => true
  | .int _ => true
  | .str _ => true
  | _ => false
def eqV : V → V → Bool
  | .non, .non => true
  | .bl a, .bl b => a == b
  | .bl a, .int b => (if a then 1 else 0) == b
  | .int a, .bl b => a == (if b then 1 else 0)
  | .int a, .int b => a == b
  | .str a, .str b => a == b
  | _, _ => false
theorem eqAt_V {A : Around} {s : Shared} {y x : V} {u v : Value} (ry : RelV y u) (rx : RelV x v) (fy : flatV y = true) (fx : flatV x = true) : SeqAt.EqAt A s u v (eqV y x) := by
  cases y with
  | non =>
    cases ry
    cases x with
    | non => cases rx; exact SeqAt.EqAt.same _
    | bl b => cases rx; exact SeqAt.EqAt.none_bool b
    | int b => obtain ⟨t, rfl⟩ := rx; exact SeqAt.EqAt.none_int b t
    | str b => obtain ⟨t, rfl⟩ := rx; exact SeqAt.EqAt.none_str b t
    | _ => exact absurd (show false = true from fx) Bool.false_ne_true
  | bl a =>
    cases ry
    cases x with
    | non => cases rx; exact SeqAt.EqAt.bool_none a
    | bl b => cases rx; exact SeqAt.EqAt.bool_bool a b
    | int b => obtain ⟨t, rfl⟩ := rx; exact SeqAt.EqAt.bool_int a b t
    | str b => obtain ⟨t, rfl⟩ := rx; exact SeqAt.EqAt.bool_str a b t
    | _ => exact absurd (show false = true from fx) Bool.false_ne_true
  | int a =>
    obtain ⟨t', rfl⟩ := ry
    cases x with
    | non => cases rx; exact SeqAt.EqAt.int_none a t'
    | bl b => cases rx; exact SeqAt.EqAt.int_bool a t' b
    | int b => obtain ⟨t, rfl⟩ := rx; exact SeqAt.EqAt.int_int a t' b t
    | str b => obtain ⟨t, rfl⟩ := rx; exact SeqAt.EqAt.int_str a t' b t
    | _ => exact absurd (show false = true from fx) Bool.false_ne_true
  | str a =>
    obtain ⟨t', rfl⟩ := ry
    cases x with
    | non => cases rx; exact SeqAt.EqAt.str_none a t'
    | bl b => cases rx; exact SeqAt.EqAt.str_bool a t' b
    | int b => obtain ⟨t, rfl⟩ := rx; exact SeqAt.EqAt.str_int a t' b t
    | str b => obtain ⟨t, rfl⟩ := rx; exact SeqAt.EqAt.str_str a t' b t
    | _ => exact absurd (show false = true from fx) Bool.false_ne_true
  | _ => exact absurd (show false = true from fy) Bool.false_ne_true
def eqU (x : V) (u : Value) : Bool := match u with
  | .none => eqV .non x
  | .bool b => eqV (.bl b) x
  | .int i _ => eqV (.int i) x
  | .str z _ => eqV (.str z) x
  | _ => false
theorem eqU_of {x y : V} {u : Value} (r : RelV y u) (f : flatV y = true) : eqU x u = eqV y x := by
  cases y with
  | non => cases r; rfl
  | bl b => cases r; rfl
  | int i => obtain ⟨t, rfl⟩ := r; rfl
  | str z => obtain ⟨t, rfl⟩ := r; rfl
  | _ => exact absurd (show false = true from f) Bool.false_ne_true
theorem any_eqU {x : V} : ∀ {xs : List V} {us : List Value}, Vals xs us → xs.all flatV = true → us.any (eqU x) = xs.any fun y => eqV y x
  | _, _, .nil, _ => rfl
  | y :: xs, u :: us, .cons r t, f => by
    rw [List.all_cons, Bool.and_eq_true] at f
    rw [List.any_cons, List.any_cons, eqU_of r f.1, any_eqU t f.2]
theorem mem_eqAt {A : Around} {s : Shared} {x : V} {v : Value} (rx : RelV x v) (fx : flatV x = true) : ∀ {xs : List V} {us : List Value}, Vals xs us → xs.all flatV = true → ∀ u ∈ us, SeqAt.EqAt A s u v (eqU x u)
  | _, _, .nil, _ => fun u hu => by cases hu
  | y :: xs, u :: us, .cons r t, f => fun u' hu => by
    rw [List.all_cons, Bool.and_eq_true] at f
    rcases List.mem_cons.mp hu with rfl | hu
    · rw [eqU_of r f.1]; exact eqAt_V r rx f.1 fx
    · exact mem_eqAt rx fx t f.2 u' hu
def inV (x : V) (xs : List V) : Bool := xs.any fun y => eqV y x
def rIn (K : PySem.W.Frag) (neg : Bool) : R2 := fun x y H Q => ∃ p xs, y = .ref p ∧ (SqL K H p xs ∨ SqT K H p xs) ∧ flatV x = true ∧ xs.all flatV = true ∧ Q (.bl (if neg then !inV x xs else inV x xs)) H
theorem op_in_seq : OpR X (compareOp .In) (rIn X.K false) := by
  intro pins s σ H x y v u Q I rx ry h
  obtain ⟨p, xs, rfl, hq, fx, fs, q⟩ := h
  cases ry
  rcases hq with hq | hq
  · obtain ⟨its, r, pl, hz⟩ := I.list hq
    refine SeqAt.in_listAt (eqU x) pl.isList (fun w hw => mem_eqAt rx fx r fs w (by simpa using hw)) ⟨.bl _, H, I, rfl, ?_⟩
    rw [show its.toArray.any (eqU x) = its.any (eqU x) by simp, any_eqU r fs]
    exact q
  · obtain ⟨its, r, pl, hz⟩ := I.tuple hq
    refine SeqAt.in_tupleAt (eqU x) pl (fun w hw => mem_eqAt rx fx r fs w (by simpa using hw)) ⟨.bl _, H, I, rfl, ?_⟩
    rw [show its.toArray.any (eqU x) = its.any (eqU x) by simp, any_eqU r fs]
    exact q
theorem op_notIn_seq : OpR X (compareOp .NotIn) (rIn X.K true) := by
  intro pins s σ H x y v u Q I rx ry h
  obtain ⟨p, xs, rfl, hq, fx, fs, q⟩ := h
  cases ry
  rcases hq with hq | hq
  · obtain ⟨its, r, pl, hz⟩ := I.list hq
    refine SeqAt.notIn_listAt (eqU x) pl.isList (fun w hw => mem_eqAt rx fx r fs w (by simpa using hw)) ⟨.bl _, H, I, rfl, ?_⟩
    rw [show its.toArray.any (eqU x) = its.any (eqU x) by simp, any_eqU r fs]
    exact q
  · obtain ⟨its, r, pl, hz⟩ := I.tuple hq
    refine SeqAt.notIn_tupleAt (eqU x) pl (fun w hw => mem_eqAt rx fx r fs w (by simpa using hw)) ⟨.bl _, H, I, rfl, ?_⟩
    rw [show its.toArray.any (eqU x) = its.any (eqU x) by simp, any_eqU r fs]
    exact q
theorem op_notIn_str : OpR X (compareOp .NotIn) (fun x y H Q => ∃ i j, x = .str i ∧ y = .str j ∧ Q (.bl (!(!(Builtin.Str.occurrences j i 0 j.length 1).isEmpty))) H) := by
  intro pins s σ H x y v u Q I rx ry h
  obtain ⟨i, j, rfl, rfl, q⟩ := h
  obtain ⟨t, rfl⟩ := rx
  obtain ⟨t', rfl⟩ := ry
  exact notIn_str ⟨.bl _, H, I, rfl, q⟩
theorem call_len_seq : CallR X (.builtin "len") (fun xs H Q => ∃ p ys, xs = [.ref p] ∧ (SqL X.K H p ys ∨ SqT X.K H p ys) ∧ Q (.int ys.length) H) := by
  intro pins s σ H xs us Q I r h
  obtain ⟨p, ys, rfl, hq, q⟩ := h
  obtain ⟨u, rfl, rx⟩ := vals1 r
  cases rx
  have hn := line63
  rcases hq with hq | hq
  · obtain ⟨its, r', pl, hz⟩ := I.list hq
    have hlen := r'.length
    exact Calls.call_len_list pl.isList (by simp only [List.size_toArray] <;> omega) ⟨.int ys.length, H, I.tok _, ⟨s.toks + 1, by rw [List.size_toArray, hlen]⟩, q⟩
  · obtain ⟨its, r', pl, hz⟩ := I.tuple hq
    have hlen := r'.length
    exact len_tuple pl (by simp only [List.size_toArray] <;> omega) ⟨.int ys.length, H, I.tok _, ⟨s.toks + 1, by rw [List.size_toArray, hlen]⟩, q⟩
theorem call_len_str : CallR X (.builtin "len") (fun xs H Q => ∃ z, xs = [.str z] ∧ z.length ≤ sizeLine ∧ Q (.int z.length) H) := by
  intro pins s σ H xs us Q I r h
  obtain ⟨z, rfl, hz, q⟩ := h
  obtain ⟨u, rfl, t, rfl⟩ := vals1 r
  have hn := line63
  exact len_str (by omega) ⟨.int z.length, H, I.tok _, ⟨_, rfl⟩, q⟩
theorem call_tuple_of : CallR X (.type "tuple") (fun xs H Q => ∃ p ys, xs = [.ref p] ∧ ((SqL X.K H p ys ∧ ∀ l, H l = none → Q (.ref l) (upd H l (.tup ys))) ∨ (SqT X.K H p ys ∧ Q (.ref p) H))) := by
  intro pins s σ H xs us Q I r h
  obtain ⟨p, ys, rfl, h⟩ := h
  obtain ⟨u, rfl, rx⟩ := vals1 r
  cases rx
  rcases h with ⟨hq, q⟩ | ⟨hq, q⟩
  · obtain ⟨its, r', pl, hz⟩ := I.list hq
    have hlen := r'.length
    refine call_tuple_list pl.isList (fun h' kp => ?_) (by simp only [List.size_toArray] <;> omega)
    have I1 : Inv X pins σ H { s with heap := h' } := I.kept (t' := s.toks) kp
    have I2 : Inv X pins σ (upd H h'.objs.size (.tup ys)) { s with heap := h'.push { cls := .type "tuple", data := .seq its.toArray } } :=
      I1.laid (t' := s.toks) (fun b o e => Heap.get?_push_of_some _ e) (Nat.le_refl _) (show ObjOk X.prog X.w _ _ _ (.tup ys) from ⟨hz, its, r', IsTup.new _ _⟩)
    exact ⟨.ref h'.objs.size, _, I2, rfl, q _ (I1.hok.fresh (Nat.le_refl _))⟩
  · obtain ⟨its, r', pl, hz⟩ := I.tuple hq
    exact call_tuple_same pl ⟨.ref p, H, I, rfl, q⟩
def tyV (K : PySem.W.Frag) (T : String) (x : V) (H : Hp) : Prop := match x with
  | .str _ => T = "str"
  | .int _ => T = "int"
  | .ref p => (T = "list" ∧ ∃ xs, SqL K H p xs) ∨ (T = "tuple" ∧ ∃ o, K.lookup p = some o ∧ o.cls = .type "tuple" ∧ o.dict = none) ∨
      (T = "dict" ∧ ((∃ kvs, H p = some (.dK kvs)) ∨ ∃ kvs, H p = some (.dT kvs))) ∨ (T = "set" ∧ ∃ S n, H p = some (.set S n))
  | _ => False
theorem tyV_is {pins : List (Addr × Obj)} {σ : St} {H : Hp} {s : Shared} {T : String} {x : V} {v : Value} (I : Inv X pins σ H s) (r : RelV x v) (ty : tyV X.K T x H) :
    s.TypeIs v T ∧ ∀ a, v = .ref a → ∃ ob, s.heap.get? a = some ob ∧ ob.dict = none := by
  cases x with
  | str z =>
    obtain ⟨t, rfl⟩ := r
    cases (show T = "str" from ty)
    exact ⟨typeIs_str s z t, fun _ e => nomatch e⟩
  | int i =>
    obtain ⟨t, rfl⟩ := r
    cases (show T = "int" from ty)
    exact ⟨typeIs_int s i t, fun _ e => nomatch e⟩
  | ref p =>
    cases r
    rcases ty with ⟨rfl, xs, hq⟩ | ⟨rfl, o, hk, hc, hd⟩ | ⟨rfl, hk⟩ | ⟨rfl, S, n, hk⟩
    · obtain ⟨its, _, pl, _⟩ := I.list hq
      refine ⟨pl.isList.typeIs, fun a e => ?_⟩
      cases e
      obtain ⟨o, n, e, c, hd, _⟩ := pl
      exact ⟨o, e, hd⟩
    · refine ⟨⟨o, I.kIn p o hk, hc⟩, fun a e => ?_⟩
      cases e
      exact ⟨o, I.kIn _ o hk, hd⟩
    · have z : ∃ o, s.heap.get? p = some o ∧ o.ExactDict := by
        rcases hk with ⟨kvs, hk⟩ | ⟨kvs, hk⟩
        · obtain ⟨_, _, _, _, o, _, _, e, ex, _⟩ := I.hok p _ hk
          exact ⟨o, e, ex⟩
        · obtain ⟨_, _, _, _, o, _, _, e, ex, _⟩ := I.hok p _ hk
          exact ⟨o, e, ex⟩
      obtain ⟨o, e, ex⟩ := z
      refine ⟨⟨o, e, ex.1⟩, fun a e2 => ?_⟩
      cases e2
      exact ⟨o, e, ex.2.1⟩
    · obtain ⟨o, _, _, _, e, ex, _⟩ := I.hok p _ hk
      refine ⟨⟨o, e, ex.1⟩, fun a e2 => ?_⟩
      cases e2
      exact ⟨o, e, ex.2.1⟩
  | _ => exact False.elim ty
def tBM0 (K : PySem.W.Frag) (T : String) (r : V → List V → Hp → VK → Prop) (to : TE) : TE := fun σ H Q => to σ H fun x H1 => tyV K T x H1 ∧ r x [] H1 Q
def tBM (K : PySem.W.Frag) (T : String) (r : V → List V → Hp → VK → Prop) (to : TE) (t : TA) : TE := fun σ H Q => to σ H fun x H1 => tyV K T x H1 ∧ t σ H1 fun xs H2 => r x xs H2 Q
variable {o e : Expr} {es : List Expr} {to : TE} {t : TA} {name : Str} {apos cpos : Pos} {T id : String} {r : V → List V → Hp → VK → Prop}
theorem pe_bm0 (pa : PlainAttrs T) (slot : Slot T name id) (hty : typeOf (.builtin id) = pure (.type "method_descriptor")) (hm : MtR X id r) (ho : PE X o to)
    (hbase : attributeBase o name X.env (eval o X.env) = eval o X.env := by rfl) (hline : (apos.endLine == cpos.line) = true := by rfl) : PE X (.Call (.Attribute o name apos) [] [] cpos) (tBM0 X.K T r to) := by
  intro pins s σ H Q I h
  refine wpAny_Call_method0_late hbase hline (thn (ho pins s σ H _ I h) fun v s1 ⟨x, H1, I1, r1, ty, q1⟩ => ?_)
  obtain ⟨h1, h2⟩ := tyV_is I1 r1 ty
  exact ⟨T, id, pa, slot, hty, h1, h2, Calls.callWith_builtin rfl (PySem.evalArgs_none (hm pins s1 σ H1 x [] v [] Q I1 r1 .nil q1))⟩
theorem pe_bm (pa : PlainAttrs T) (slot : Slot T name id) (hty : typeOf (.builtin id) = pure (.type "method_descriptor")) (hm : MtR X id r) (ho : PE X o to) (ha : PA X (e :: es) t)
    (hbase : attributeBase o name X.env (eval o X.env) = eval o X.env := by rfl)
    (hfew : ((backTo cpos (starEach (e :: es) X.env)).all (fun x => !x.1) && (backToKw cpos (keywordEach [] X.env)).all (fun x => x.1.isSome)
      && decide ((e :: es).length + ([] : List Keyword).length + (if ([] : List Keyword).isEmpty then 0 else 1) < 30)) = true := by rfl)
    (hline : (apos.endLine == cpos.line) = true := by rfl) (hs : starEach (e :: es) X.env = (false, eval e X.env) :: starEach es X.env := by rfl) (hplain : (backTo cpos (starEach es X.env)).any (·.1) = false := by rfl) :
    PE X (.Call (.Attribute o name apos) (e :: es) [] cpos) (tBM X.K T r to t) := by
  intro pins s σ H Q I h
  refine wpAny_Call_method_late hbase hfew hline rfl (thn (ho pins s σ H _ I h) fun v s1 ⟨x, H1, I1, r1, ty, q1⟩ => ?_)
  obtain ⟨h1, h2⟩ := tyV_is I1 r1 ty
  refine ⟨T, id, pa, slot, hty, h1, h2, ?_⟩
  have hA := ha cpos pins s1 σ H1 _ I1 q1
  rw [hs] at hA ⊢
  refine Calls.callWith_builtin (by show (false || (backTo cpos (starEach es X.env)).any (·.1)) = false; rw [hplain] <;> rfl) (Calls.evalArgs_plain ?_)
  exact thn hA fun us s2 ⟨vs, H2, I2, r2, q2⟩ => hm pins s2 σ H2 x vs v us Q I2 r1 r2 q2
end
end L2
namespace L2
open PySem PySem.Spec PyProof.Rows
def MtM (X : Cx) (id : String) (r : V → List V → Hp → VK → Prop) : Prop :=
  ∀ (pins : List (Addr × Obj)) (s : Shared) (σ : St) (H : Hp) (x : V) (xs : List V) (v : Value) (us : List Value) (Q : VK), Inv X pins σ H s → RelV x v → Vals xs us → r x xs H Q →
    wpAny (model X.prog X.w) X.A (call (.builtin id) (v :: us)) (EP X pins σ Q) X.xe s
theorem Vals.one : ∀ {x : V} {us : List Value}, Vals [x] us → ∃ u, us = [u] ∧ RelV x u
  | _, _, .cons r .nil => ⟨_, rfl, r⟩
theorem Vals.zero : ∀ {us : List Value}, Vals [] us → us = []
  | _, .nil => rfl
theorem Vals.dropLast {xs : List V} {us : List Value} (h : Vals xs us) : Vals xs.dropLast us.dropLast := by
  induction h with
  | nil => exact .nil
  | cons r t ih =>
    cases t with
    | nil => exact .nil
    | cons q t' => exact .cons r ih
theorem Vals.rep {xs : List V} {us : List Value} (h : Vals xs us) : ∀ k : Nat, Vals (List.replicate k xs).flatten (List.replicate k us).flatten
  | 0 => .nil
  | k + 1 => by
    rw [List.replicate_succ, List.replicate_succ, List.flatten_cons, List.flatten_cons]
    exact Vals.append h (Vals.rep h k)
theorem erase_last {α : Type} (l : List α) : l.eraseIdx (l.length - 1) = l.dropLast := by
  induction l with
  | nil => rfl
  | cons a r ih =>
    cases r with
    | nil => rfl
    | cons b r =>
      have e : (a :: b :: r).length - 1 = ((b :: r).length - 1) + 1 := by
        have h1 : (a :: b :: r).length = r.length + 2 := rfl
        have h2 : (b :: r).length = r.length + 1 := rfl
        omega
      rw [e, List.eraseIdx_cons_succ, ih]
      all_goals rfl
theorem foldl_rep (its : List Value) : ∀ (k : Nat) (acc : List Value),
    List.foldl (fun x1 x2 => x1 ++ x2) acc.toArray (List.replicate k its.toArray) = (acc ++ (List.replicate k its).flatten).toArray
  | 0, acc => by simp
  | k + 1, acc => by
    have e : acc.toArray ++ its.toArray = (acc ++ its).toArray := by simp
    have e2 : (acc ++ its) ++ (List.replicate k its).flatten = acc ++ (List.replicate (k + 1) its).flatten := by
      rw [List.replicate_succ, List.flatten_cons, List.append_assoc]
    rw [← e2, ← foldl_rep its k (acc ++ its), ← e, List.replicate_succ, List.foldl_cons]
section
variable {X : Cx} {pins : List (Addr × Obj)} {σ : St} {H : Hp} {s : Shared} {l b : Addr} {xs ys zs : List V}
theorem Inv.lset {its its' : List Value} {n : Nat} {f : Array Value → Array Value} {t' : Nat} (I : Inv X pins σ H s) (hH : H l = some (.lst xs))
    (e : s.heap.get? l = some { cls := .type "list", data := .seq its.toArray n }) (hf : f its.toArray = its'.toArray) (hv : Vals ys its') (hz : ys.length ≤ sizeLine) :
    Inv X pins σ (upd H l (.lst ys)) { s with heap := s.heap.update l (Obj.mapSeq f), toks := t' } := by
  have q := PySem.IsL.update e f
  rw [hf] at q
  refine I.write (x := l) (e := l) (by rw [hH]; exact trivial) (.inl rfl) (fun b' u hb hu => (Heap.get?_update_other s.heap (Obj.mapSeq f) (Ne.symm hb)).trans hu) ⟨_, q⟩ ?_
  exact ⟨hz, its', _, hv, q⟩
theorem Inv.lnew {its : List Value} {t' : Nat} (I : Inv X pins σ H s) (hv : Vals ys its) (hz : ys.length ≤ sizeLine) :
    Inv X pins σ (upd H s.heap.objs.size (.lst ys)) { s with heap := s.heap.push { cls := .type "list", data := .seq its.toArray }, toks := t' } :=
  I.laid (fun _ _ q => Heap.get?_push_of_some _ q) (Nat.le_refl _) ⟨hz, its, 0, hv, Heap.get?_push_size _ rfl⟩
theorem Inv.fresh (I : Inv X pins σ H s) : H s.heap.objs.size = none := I.hok.fresh (Nat.le_refl _)
theorem Inv.lstM (I : Inv X pins σ H s) (hH : H l = some (.lst xs)) : xs.length ≤ sizeLine ∧ ∃ (its : List Value) (n : Nat), Vals xs its ∧ xs.length = its.length ∧ s.heap.get? l = some { cls := .type "list", data := .seq its.toArray n } := by
  obtain ⟨z, its, n, r, e⟩ := I.hok l _ hH
  exact ⟨z, its, n, r, r.length, e⟩
theorem notLongL {n : Nat} (h : n ≤ sizeLine) : Builtin.List.listTooLong n = false := by
  unfold Builtin.List.listTooLong
  exact decide_eq_false (by omega)
end
section
variable {X : Cx}
def rAppend : V → List V → Hp → VK → Prop := fun x vs H Q => ∃ l xs y, x = .ref l ∧ vs = [y] ∧ H l = some (.lst xs) ∧ xs.length < sizeLine ∧ Q .non (upd H l (.lst (xs ++ [y])))
theorem mt_append : MtM X "list.append" rAppend := by
  intro pins s σ H x vs v us Q I rx rv h
  obtain ⟨l, xs, y, rfl, rfl, hH, hz, q⟩ := h
  cases rx
  obtain ⟨u, rfl, ru⟩ := rv.one
  obtain ⟨z, its, n, r, hl, e⟩ := I.lstM hH
  refine call_meets F.slot_list_append ⟨_, e, rfl⟩ F.entry_list_append (F.args_list_append_2 _ _) (PySem.list_append l its.toArray n u (by rw [List.size_toArray]; omega)) ⟨e, ?_⟩
  refine ⟨.non, _, I.lset (its' := its ++ [u]) hH e (by simp) (r.append (.cons ru .nil)) ?_, rfl, q⟩
  rw [List.length_append, List.length_singleton]
  omega
def rPop : V → List V → Hp → VK → Prop := fun x vs H Q => ∃ l xs y, x = .ref l ∧ vs = [] ∧ H l = some (.lst xs) ∧ xs[xs.length - 1]? = some y ∧ Q y (upd H l (.lst xs.dropLast))
theorem mt_pop : MtM X "list.pop" rPop := by
  intro pins s σ H x vs v us Q I rx rv h
  obtain ⟨l, xs, y, rfl, rfl, hH, hy, q⟩ := h
  cases rx
  have hus := rv.zero
  subst hus
  obtain ⟨z, its, n, r, hl, e⟩ := I.lstM hH
  obtain ⟨u, hu, ru⟩ := r.get hy
  have hy' : its.toArray[its.toArray.size - 1]? = some u := by
    show its.toArray[its.length - 1]? = some u
    rw [← Array.getElem?_toList, ← hl]
    exact hu
  refine call_meets F.slot_list_pop ⟨_, e, rfl⟩ F.entry_list_pop (F.args_list_pop_1 _) (MeetsSeq.list_pop_last l its.toArray n u hy' (by rw [List.size_toArray]; omega)) ⟨e, ?_⟩
  refine ⟨y, _, I.lset (its' := its.dropLast) hH e ?_ r.dropLast ?_, ru, q⟩
  · show its.toArray.eraseIdxIfInBounds (its.toArray.size - 1) = its.dropLast.toArray
    rw [List.size_toArray, List.eraseIdxIfInBounds_toArray, erase_last]
  · rw [List.length_dropLast]
    omega
def rCat : R2 := fun x y H Q => ∃ l b xs zs, x = .ref l ∧ y = .ref b ∧ H l = some (.lst xs) ∧ H b = some (.lst zs) ∧ xs.length + zs.length ≤ sizeLine ∧ ∀ p, H p = none → Q (.ref p) (upd H p (.lst (xs ++ zs)))
theorem op_cat : OpR X (binaryOp .Add) rCat := by
  intro pins s σ H x y v u Q I rx ry h
  obtain ⟨l, b, xs, zs, rfl, rfl, hH, hB, hz, q⟩ := h
  cases rx
  cases ry
  obtain ⟨z, its, n, r, hl, e⟩ := I.lstM hH
  obtain ⟨z2, its2, n2, r2, hl2, e2⟩ := I.lstM hB
  refine PySem.P.add_list e e2 ?_ (by rw [List.size_toArray, List.size_toArray]; omega)
  have ea : its.toArray ++ its2.toArray = (its ++ its2).toArray := by simp
  rw [ea]
  exact ⟨.ref _, _, I.lnew (t' := s.toks) (r.append r2) (by rw [List.length_append]; omega), rfl, q _ I.fresh⟩
def rRep : R2 := fun x y H Q => ∃ l k xs, x = .ref l ∧ y = .int k ∧ H l = some (.lst xs) ∧ -(2 ^ 63) ≤ k ∧ k < 2 ^ 63 ∧ xs.length * k.toNat ≤ sizeLine ∧
  ∀ p, H p = none → Q (.ref p) (upd H p (.lst (List.replicate k.toNat xs).flatten))
theorem len_rep {α : Type} (xs : List α) (k : Nat) : (List.replicate k xs).flatten.length = k * xs.length := by
  induction k with
  | zero => simp
  | succ k ih => rw [List.replicate_succ, List.flatten_cons, List.length_append, ih, Nat.succ_mul, Nat.add_comm]
theorem op_rep : OpR X (binaryOp .Mult) rRep := by
  intro pins s σ H x y v u Q I rx ry h
  obtain ⟨l, k, xs, rfl, rfl, hH, h1, h2, hz, q⟩ := h
  cases rx
  obtain ⟨t, rfl⟩ := ry
  obtain ⟨z, its, n, r, hl, e⟩ := I.lstM hH
  have hlen : its.toArray.size * k.toNat ≤ sizeLine := by rw [List.size_toArray, ← hl]; exact hz
  have hcap : ¬ its.toArray.size * k.toNat > (2 ^ 63 - 1) / 8 := by
    have : (sizeLine : Nat) ≤ (2 ^ 63 - 1) / 8 := by decide
    omega
  have hfit : ¬ (!Builtin.List.listFitsIndex k) = true := by
    rw [fitsIndex_both h1 h2]
    exact Bool.false_ne_true
  have hlong : ¬ Builtin.List.listTooLong (its.toArray.size * k.toNat) = true := by
    rw [notLongL hlen]
    exact Bool.false_ne_true
  have hnew : List.foldl (fun x1 x2 => x1 ++ x2) #[] (List.replicate (if its.toArray.isEmpty = true then 0 else k.toNat) its.toArray) = (List.replicate k.toNat its).flatten.toArray := by
    have f0 : ∀ m : Nat, List.foldl (fun x1 x2 => x1 ++ x2) #[] (List.replicate m its.toArray) = (List.replicate m its).flatten.toArray := fun m => by
      have := foldl_rep its m []
      rw [List.nil_append] at this
      exact this
    rw [f0]
    cases its with
    | nil => simp
    | cons a r' => rw [if_neg (by simp)]
  refine wpAny_binaryOp_repeat_ref (T := "list") (U := "int") (by decide) ⟨_, e, rfl⟩ (fun s' => typeIs_int s' k t) noFill_list_mul F.fills_int_mul F.slot_int_rmul repeat_list F.slot_int_index.lookup
    (call_meets F.slot_int_rmul (typeIs_int s k t) F.entry_int_rmul (F.args_int_rmul_2 _ _) (int___rmul___int_list k t l its.toArray n)
      ⟨e, rfl, ⟨_, e, rfl⟩, call_meets F.slot_list_mul ⟨_, e, rfl⟩ F.entry_list_mul (F.args_list_mul_2 _ _) (AutoListH.list___mul___list_int_3 l its.toArray n k t hfit hcap hlong) ⟨e, ?_⟩⟩)
  rw [hnew]
  exact ⟨.ref _, _, I.lnew (t' := s.toks) (r.rep k.toNat) (by rw [len_rep, Nat.mul_comm]; exact hz), rfl, q _ I.fresh⟩
end
section
variable {prog : Program} {w : World} {A : Around} {E : Value → Shared → Prop} {s : Shared}
end
section
variable {X : Cx}
end
end L2
namespace Att
open PySem PySem.W PySem.Calls PyProof.Rows
theorem ints_of_wellAll {P : Params} {h : Heap} : ∀ (ns : List Int) (vs : List Value), WellAll P h vs (ns.map WData.int) → IntsAre vs ns := by
  intro ns
  induction ns with
  | nil =>
    intro vs w
    rw [List.map_nil] at w
    cases w
    exact .nil
  | cons n ns ih =>
    intro vs w
    rw [List.map_cons] at w
    cases w with
    | cons a b =>
      cases a
      exact .cons _ _ (ih _ b)
theorem script_of {l : OpenLaw} {n : Nat} (hn : l.most = some n) {P : Params} {h : Heap} {args : List WData} {vals : List Value}
    (hpre : l.row.toRowW.claim.pre args = true) (hwl : WellAll P h vals args) :
    ∃ a vs ns, vals = [Value.ref a] ∧ args = [WData.list (ns.map WData.int)] ∧ h.get? a = some { cls := .type "list", data := .seq vs.toArray } ∧ IntsAre vs ns ∧ ns.length ≤ n := by
  have hsh : WShape.hasAll [] args [.list .int] = true := (pre_splitW hpre).1
  have hc : l.pre.holds [] { args := args } = true := (pre_splitW hpre).2
  obtain ⟨d, r, rfl, h1, h2⟩ := hasAllW_cons hsh
  obtain rfl := hasAllW_nil h2
  obtain ⟨xs, rfl, h3⟩ := hasW_list h1
  obtain ⟨ns, rfl⟩ := items_int h3
  have hlen : ns.length ≤ n := by
    unfold OpenLaw.pre at hc
    have h4 : (WTm.not (.lt (.lit (.int (n : Int))) (.len (.arg 0)))).holds [] { args := [.list (ns.map .int)] } = true := by
      have h4 := (holds_andW hc).1
      rw [hn] at h4
      exact h4
    have h5 := condW_of h4 (w_not (w_lt w_lit (w_len_list (w_arg rfl))))
    rw [List.length_map] at h5
    refine Nat.le_of_not_lt fun q => ?_
    have q' : (n : Int) < ((ns.length : Nat) : Int) := by omega
    first
      | (rw [decide_eq_true q'] at h5; exact absurd h5 (by decide))
      | (simp at h5; omega)
  cases hwl with
  | cons w1 w2 =>
    cases w2
    cases w1 with
    | list ho hall => exact ⟨_, _, ns, rfl, rfl, ho, ints_of_wellAll ns _ hall, hlen⟩
theorem post_true (l : OpenLaw) (args : List WData) : l.row.toRowW.claim.post args (.bool true) args = true :=
  postW_of (r := l.row.toRowW) (X := (true == true))
    (show WShape.has [] (.bool true) .bool = true by first | rfl | decide | simp [WShape.has, WShape.arms, WShape.armsAll])
    (show (WTm.eq .res (.lit (.bool true))).value [] { args := args, res := some (.bool true), after := args } = some (.bool (true == true)) from w_eq_bool (w_res rfl) w_lit) rfl
theorem attach_call {l : OpenLaw} {n : Nat} {q : Program} {loose : List Str} {XP : (Str → Option Value) → Heap → Prop} {YP : World → Heap → Prop} {d : DefRec}
    (hn : l.most = some n) (hdf : d.params.defaults = [])
    (call : ∀ (w : World) (s₀ s₁ : Shared) (mg mb : Str → Option Value) (fa : Addr) (o : Obj) (pm cd doc : Value) (a : Addr) (vs : List Value) (ns : List Int),
      Ground q loose [] XP w s₀ mg mb s₁.heap → YP w s₁.heap →
      s₁.heap.get? fa = some o → o.data = .func (docDef d.name d.params d.body d.scope pm cd doc) → s₁.heap.CodeRec cd d.name → mg d.name = some (.ref fa) →
      s₁.heap.get? a = some { cls := .type "list", data := .seq vs.toArray } → IntsAre vs ns → ns.length ≤ n → s₁.gens = #[] →
      codeAny (model l.prog w) callerA (.call (.ref fa) ⟨[.ref a], []⟩) (fun r s' => r = .ok (.ret (.bool true)) ∧ OldK s₁.heap s'.heap ∧ s'.os = s₁.os ∧ AllBare s'.gens) s₁) :
    WalkO q loose XP YP l.row.toRowW d [] (fun f vs => PySem.call f vs) := by
  intro w s₀ s₁ mg mb G Y fa o pm cd doc dV kV ho hd hcd hD hmg hg args vals as hpre hlay hrd hwl hlo
  obtain rfl : dV = .none := Dflts.none hD hdf
  obtain rfl : kV = .none := Dflts.noKw hD
  obtain ⟨a, vs, ns, rfl, rfl, hobj, hints, hlen⟩ := script_of hn hpre hwl
  refine enter_call (codeAny_mono (call w s₀ s₁ mg mb fa o pm cd doc a vs ns G Y ho (fd_plain hd) hcd hmg hobj hints hlen hg) fun r s' hq => ?_)
  obtain ⟨rfl, h2, h3, h4⟩ := hq
  exact ⟨.inl ⟨.bool true, .bool true, [], rfl, fun _ => rfl, .bool true, post_true l _, fun _ => ⟨List.Pairwise.nil, fun _ hm => (nomatch hm)⟩⟩, h2, h3, h4⟩
section
variable {prog : Program} {w : World} {A : Around} {E : Value → Shared → Prop} {s : Shared} {K : Frag}
end
end Att
namespace L2
open PySem PySem.Spec PyProof.Rows
theorem vals_ints : ∀ {vs : List Value} {ns : List Int}, IntsAre vs ns → Vals (ns.map V.int) vs
  | _, _, .nil => .nil
  | _, _, .cons n t h => .cons ⟨t, rfl⟩ (vals_ints h)
def Only (H : Hp) : Prop := ∀ b, H b = none ∨ ∃ o xs, H b = some (.frz o (.lst xs))
theorem law_call {P : Program} {w : World} {K : PySem.W.Frag} {mg mb : Str → Option Value} {CX : CXT} {k : Nat} {fa a : Addr} {fd : FuncData} {x : Str} {sp : Sp} {s₁ : Shared} {vs : List Value} {ns : List Int}
    (KX : K.In s₁.heap) (hns : s₁.heap.Ns mainGlobals mg) (hb : s₁.heap.Ns builtinsNs mb) (hbb : ∀ x : Str, x ≠ "__name__" → mb x = bootBuiltins x) (hlim : s₁.heap.NoLimit) (hsm : ∃ mm, s₁.heap.Ns sysModules mm) (hg : s₁.gens = #[])
    (ha : s₁.heap.get? a = some { cls := .type "list", data := .seq vs.toArray }) (hi : IntsAre vs ns) (hl : ns.length ≤ sizeLine) (hr : Room k callerA)
    (F : ∀ base : Heap, K.In base → base.Ns mainGlobals mg → FnOk P w K mg base CX k fa fd [x] sp) (hbind : ∀ (s : Shared) (u : Value), BindsTo s fd ⟨[u], []⟩ [(x, u)])
    (hsp : ∀ H : Hp, Only H → SqL K H a (ns.map V.int) → sp [.ref a] H (fun v _ => v = .bl true) fun _ _ _ => False)
    (hCX : ∀ H e s', CX [] H s₁ (fun _ _ _ => False) e s' → False) :
    codeAny (model P w) callerA (.call (.ref fa) ⟨[.ref a], []⟩) (fun r s' => r = .ok (.ret (.bool true)) ∧ OldK s₁.heap s'.heap ∧ s'.os = s₁.os ∧ AllBare s'.gens) s₁ := by
  have rv := vals_ints hi
  have lenV := hi.length
  have core : ∀ H : Hp, Only H → SqL K H a (ns.map V.int) → HOk P w H s₁.heap → (∀ b, H b ≠ none → b = a) → (H a ≠ none → K.lookup a = none) →
      codeAny (model P w) callerA (.call (.ref fa) ⟨[.ref a], []⟩) (fun r s' => r = .ok (.ret (.bool true)) ∧ OldK s₁.heap s'.heap ∧ s'.os = s₁.os ∧ AllBare s'.gens) s₁ := by
    intro H hO hS hok hA hK
    have base_of : ∀ {b : Addr} {o : Obj}, s₁.heap.get? b = some o → H b = none → (hidT s₁.heap H).get? b = some o := fun e n => hidT_get e n
    have noA : ∀ {b : Addr} {o : Obj} {es : Array DictEntry} {ep : Nat}, s₁.heap.get? b = some o → o.data = .dict es ep → H b = none := fun {b o es ep} e d => by
      cases q : H b with
      | none => rfl
      | some u =>
        have e' : b = a := hA b (by rw [q]; simp)
        subst e'
        rw [ha] at e; cases e
        have d' : Data.seq vs.toArray _ = Data.dict es ep := d
        cases d'
    have nsK : ∀ {b : Addr} {m : Str → Option Value}, s₁.heap.Ns b m → (hidT s₁.heap H).Ns b m := fun {b m} ⟨o, es, ep, e, d, r⟩ => ⟨o, es, ep, base_of e (noA e d), d, r⟩
    have hKb : K.In (hidT s₁.heap H) := fun b o e => base_of (KX b o e) (by
      cases q : H b with
      | none => rfl
      | some u =>
        have e' : b = a := hA b (by rw [q]; simp)
        subst e'
        rw [hK (by rw [q]; simp)] at e; cases e)
    have hM : Mod K mg (hidT s₁.heap H) := ⟨hKb, nsK hns, ⟨mb, nsK hb, hbb⟩, let ⟨mc, h1, h2⟩ := hlim; ⟨mc, nsK h1, h2⟩, let ⟨mm, h1⟩ := hsm; ⟨mm, nsK h1⟩⟩
    have e0 : Env0 P w K mg (hidT s₁.heap H) callerA [] s₁ H := ⟨rfl, hM, fun b o e => of_hidT e, Nat.le_of_eq (hidT_size _ _), trivial, fun b hb => absurd (show b ∈ ([] : List Addr) from hb) (by simp), hok, .of_eq hg⟩
    refine codeAny_mono ((F _ hKb (nsK hns)).run callerA [] s₁ H ⟨[.ref a], []⟩ [.ref a] [.ref a] _ _ hr e0 (hbind s₁ (.ref a)) (.cons rfl .nil) (hsp H hO hS)) fun r s' h => ?_
    cases r with
    | error e => exact (hCX H e s' h).elim
    | ok fl =>
      cases fl with
      | next => exact False.elim h
      | brk => exact False.elim h
      | cont => exact False.elim h
      | ret u =>
        obtain ⟨v, H', os, bare, un, hok', r', q⟩ := h
        have q' : v = .bl true := q
        subst q'
        obtain rfl : u = Value.bool true := r'
        refine ⟨rfl, OldK.of_keep fun b o e => ?_, os, bare⟩
        cases q : H b with
        | none => exact un.keep b o e q (by intro z; exact absurd (show b ∈ ([] : List Addr) from z) (by simp)) (by simp)
        | some u =>
          rcases hO b with z | ⟨ob, xs, z⟩
          · rw [q] at z; cases z
          · have z2 := un.frzs b ob _ z
            obtain ⟨e1, _⟩ := hok b _ z
            obtain ⟨e2, _⟩ := hok' b _ z2
            rw [e] at e1; cases e1
            exact e2
  cases hk : K.lookup a with
  | some o =>
    have e := KX a o hk
    rw [ha] at e
    cases e
    refine core (fun _ => none) (fun _ => .inl rfl) (.inr ⟨_, vs.toArray, _, hk, rfl, rfl, rfl, by rw [List.size_toArray, lenV]; exact hl, by simpa using rv⟩) (fun b u z => by have z' : (none : Option HO) = some u := z; cases z') (fun b z => absurd rfl z) fun z => absurd rfl z
  | none =>
    refine core (fun b => if b = a then some (.frz { cls := .type "list", data := .seq vs.toArray } (.lst (ns.map V.int))) else none) (fun b => ?_) (.inl (.inr ⟨{ cls := .type "list", data := .seq vs.toArray }, if_pos rfl⟩)) (fun b u z => ?_) (fun b z => ?_) fun _ => hk
    · by_cases hb : b = a
      · exact .inr ⟨_, _, if_pos hb⟩
      · exact .inl (if_neg hb)
    · by_cases hb : b = a
      · have z' := (if_pos hb).symm.trans z
        cases z'
        subst hb
        exact ⟨ha, by rw [List.length_map]; exact hl, vs, _, rv, ha⟩
      · have z' := (if_neg hb).symm.trans z
        cases z'
    · by_cases hb : b = a
      · exact hb
      · exact absurd (if_neg hb) z
end L2
namespace L2
open PySem PySem.Spec PyProof.Rows
theorem walk_of {l : PySem.W.OpenLaw} {n k : Nat} {q : Program} {loose : List Str} {XP : (Str → Option Value) → Heap → Prop} {YP : World → Heap → Prop} {d : DefRec} {K : Params → PySem.W.Frag} {CX : World → CXT} {sp : World → Sp} {x : Str}
    (hn : l.most = some n) (hn2 : n ≤ sizeLine) (hdf : d.params.defaults = []) (hr : Room k callerA) (hi : PyProof.Rows.importsNone q = true)
    (hY : ∀ (w : World) (h : Heap), YP w h → (K w.params).In h)
    (F : ∀ (w : World) (mg : Str → Option Value) (fa : Addr) (h : Heap), (K w.params).In h → h.Ns mainGlobals mg → mg d.name = some (.ref fa) →
      ∃ fd : FuncData, (∀ (s : Shared) (u : Value), BindsTo s fd ⟨[u], []⟩ [(x, u)]) ∧
        ∀ base : Heap, (K w.params).In base → base.Ns mainGlobals mg → FnOk l.prog w (K w.params) mg base (CX w) k fa fd [x] (sp w))
    (hsp : ∀ (w : World) (H : Hp) (a : Addr) (ns : List Int), ns.length ≤ n → Only H → SqL (K w.params) H a (ns.map V.int) → sp w [.ref a] H (fun v _ => v = .bl true) fun _ _ _ => False)
    (hCX : ∀ (w : World) (H : Hp) (s : Shared) (e : Value) (s' : Shared), CX w [] H s (fun _ _ _ => False) e s' → False) :
    PySem.W.WalkO q loose XP YP l.row.toRowW d [] (fun f vs => PySem.call f vs) := by
  refine Att.attach_call hn hdf fun w s₀ s₁ mg mb fa o pm cd doc a vs ns G Y ho hd hcd hmg hobj hints hlen hg => ?_
  have KX := hY w _ Y
  obtain ⟨fd, hb, hF⟩ := F w mg fa _ KX G.T.g hmg
  exact law_call KX G.T.g G.T.b G.T.builtins G.T.nolimit (let ⟨mm, h1, _⟩ := (G.T.seer hi).mods; ⟨mm, h1⟩) hg hobj hints (Nat.le_trans hlen hn2) hr hF hb (fun H hO hS => hsp w H a ns hlen hO hS) fun H e s' => hCX w H s₁ e s'
end L2
namespace L2
open PySem PySem.Spec PyProof.Rows
def defArgs (s : Stmt) : Arguments := match s with
  | .FunctionDef _ a _ _ _ _ _ _ _ _ => a
  | _ => { posonlyargs := [], args := [], vararg := none, kwonlyargs := [], kw_defaults := [], kwarg := none, defaults := [] }
def defBody (s : Stmt) : List Stmt := match s with
  | .FunctionDef _ _ b _ _ _ _ _ _ _ => b
  | _ => []
def defScope (s : Stmt) : Scope := match s with
  | .FunctionDef _ _ _ _ _ _ sc _ _ _ => sc
  | _ => { kind := .function, names := [], isGenerator := false, isCoroutine := false }
abbrev CX0 : CXT := fun _ _ _ _ _ _ => False
abbrev E0 : XK := fun _ _ _ => False
theorem pass0 {X : Cx} : Passes CX0 X E0 := fun _ _ _ _ _ _ _ h => h.elim
structure Fun (K : PySem.W.Frag) (x qual : Str) (st : Stmt) (f : Addr) (fd : FuncData) : Prop where
  ex : ∃ (oc : Value) (od : Option Addr) (kV doc pm : Value) (an : Option Addr) (cdv ct : Value) (osl : Array (Option Value)),
    fd = PySem.W.fnOf x qual (defArgs st) (defBody st) (defScope st) .none kV doc pm an cdv ct ∧ K.lookup f = some ⟨oc, od, .func fd, osl⟩ ∧ PySem.W.codeIn K cdv qual = true
  kp : PySem.W.keepIn K (.ref f) = true
section
variable {P : Program} {w : World} {K : PySem.W.Frag} {mg : Str → Option Value} {base : Heap}
theorem Fun.ok {x qual : Str} {st : Stmt} {f : Addr} {fd : FuncData} {N ps : List Str} {k : Nat} {sp : Sp} (F : Fun K x qual st f fd) (S : FnScope N ps (defScope st)) (len : ∀ vs H Q E, sp vs H Q E → vs.length = ps.length)
    (hbody : ∀ (cdv : Value) (A : Around) (outer : List Env) (s : Shared) (H : Hp) (vs : List V) (Q : VK) (E : XK), Room k (A.deeper (envOfC qual (defScope st) s.heap.objs.size f cdv)) → sp vs H Q E →
      ∃ t, PSs (cxOf CX0 P w K mg base N qual (defScope st) f cdv A outer s H E).nox (defBody st) t ∧ t { nx := fun _ H' => Q .non H', rt := Q } (start N vs) H) : FnOk P w K mg base CX0 (k + 1) f fd ps sp := by
  obtain ⟨oc, od, kV, doc, pm, an, cdv, ct, osl, rfl, lk, hcd⟩ := F.ex
  refine fn_of lk hcd S len fun A outer s H vs Q E hr hsp => ?_
  obtain ⟨t, h, q⟩ := hbody cdv A outer s H vs Q E hr hsp
  exact ⟨t, h.nox, q⟩
theorem Fun.binds {x qual : Str} {st : Stmt} {f : Addr} {fd : FuncData} {ps : List Str} (F : Fun K x qual st f fd)
    (h : ∀ (kV doc pm : Value) (an : Option Addr) (cdv ct : Value) (us : List Value), us.length = ps.length → bindArgs (PySem.W.fnOf x qual (defArgs st) (defBody st) (defScope st) .none kV doc pm an cdv ct) ⟨us, []⟩ = pure (ps.zip us)) : Binds K fd ps [] := by
  obtain ⟨oc, od, kV, doc, pm, an, cdv, ct, osl, rfl, lk, hcd⟩ := F.ex
  exact .all (h kV doc pm an cdv ct)
theorem fun_mk {x qual : Str} {st : Stmt} {f : Addr} {oc : Value} {od an : Option Addr} {osl : Array (Option Value)} {kV doc pm cdv ct : Value} (l : K.lookup f = some ⟨oc, od, .func (PySem.W.fnOf x qual (defArgs st) (defBody st) (defScope st) .none kV doc pm an cdv ct), osl⟩)
    (c : PySem.W.codeIn K cdv qual = true) (k : PySem.W.keepIn K (.ref f) = true) : Fun K x qual st f (PySem.W.fnOf x qual (defArgs st) (defBody st) (defScope st) .none kV doc pm an cdv ct) := ⟨⟨oc, od, kV, doc, pm, an, cdv, ct, osl, rfl, l, c⟩, k⟩
end
theorem small1000 {n : Nat} (h : n ≤ 1000) : n < sizeLine := Nat.lt_of_le_of_lt h (by decide)
section
variable {X : Cx}
theorem pv (i : Nat) {x : Str} {pos : Pos} (hN : X.N[i]? = some x := by rfl) (hv : Vis X.env.scope x := by first | exact Or.inl rfl | exact Or.inr (Or.inl rfl) | exact Or.inr (Or.inr rfl)) (hd : (x == ("__debug__" : Str)) = false := by decide)
    (hcd : (x == ("__classdict__" : Str)) = false := by decide) : PE X (.Name x pos) (tVar i) := pe_var hN hv hd hcd
end
theorem iteF {A B : Prop} (h : B) : if false = true then A else B := by
  rw [if_neg Bool.false_ne_true]
  exact h
theorem iteT {A B : Prop} (h : A) : if true = true then A else B := by
  rw [if_pos rfl]
  exact h
theorem ite2 {c A B : Prop} [Decidable c] (h1 : c → A) (h2 : ¬ c → B) : if c then A else B := by
  by_cases h : c
  · rw [if_pos h]
    exact h1 h
  · rw [if_neg h]
    exact h2 h
theorem iteNS {c A B : Prop} [Decidable c] (hc : c) (h : B) : if (!decide c) = true then A else B := by
  rw [decide_eq_true hc]
  exact iteF h
def Same (H H' : Hp) : Prop := ∀ b o, H b = some o → H' b = some o
theorem Same.refl (H : Hp) : Same H H := fun _ _ h => h
theorem Same.trans {H H1 H2 : Hp} (a : Same H H1) (b : Same H1 H2) : Same H H2 := fun c o h => b c o (a c o h)
theorem Same.free {H H' : Hp} (e : Same H H') {l : Addr} (h : H' l = Option.none) : H l = Option.none := by
  cases q : H l with
  | none => rfl
  | some o =>
    rw [e l o q] at h
    cases h
theorem Same.seq {K : PySem.W.Frag} {H H' : Hp} {a : Addr} {xs : List V} (e : Same H H') (h : SqL K H a xs) : SqL K H' a xs := by
  rcases h with (h | ⟨o, h⟩) | h
  · exact .inl (.inl (e _ _ h))
  · exact .inl (.inr ⟨o, e _ _ h⟩)
  · exact .inr h
end L2
set_option Elab.async false
set_option linter.all false
set_option maxRecDepth 100000
namespace L2
open PySem PySem.Spec PyProof.Rows
section
variable {κ : Type} [DecidableEq κ]
def valV (kvs : List (κ × V)) (k : κ) : Option V := (kvs.find? fun kv => decide (kv.1 = k)).map (·.2)
end
section
variable {P : Program} {w : World} {H : Hp} {h : Heap} {a : Addr}
theorem rd_of {u : HO} (ok : HOk P w H h) (e : Rd H a u) : ObjOk P w H h a u := e.ok ok
theorem dk_rd {kvs : List (Key × V)} (ok : HOk P w H h) (e : Rd H a (.dK kvs)) : kvs.length ≤ sizeLine ∧ (a == sysModules) = false ∧ ∃ vs, KV kvs vs ∧ h.DictOf (mixKind P w) a vs :=
  show ObjOk P w H h a (.dK kvs) from rd_of ok e
theorem dk_of {kvs : List (Key × V)} (ok : HOk P w H h) (e : H a = some (.dK kvs)) : kvs.length ≤ sizeLine ∧ (a == sysModules) = false ∧ ∃ vs, KV kvs vs ∧ h.DictOf (mixKind P w) a vs := dk_rd ok (.inl e)
end
section
variable {X : Cx} {pins : List (Addr × Obj)} {σ : St} {H : Hp} {s : Shared} {a : Addr} {y v : V} {u r : Value} {o : Option V} {A : Around} {E : Value → Shared → Prop}
theorem Inv.big (I : Inv X pins σ H s) : sysModules < s.heap.objs.size := by
  have h : mainGlobals < s.heap.objs.size := (I.mod.glob.keeps I.bk).lt
  exact Nat.lt_trans (by decide) h
end
section
variable {X : Cx} {pins : List (Addr × Obj)} {σ : St} {H : Hp} {s : Shared} {a : Addr} {kvs : List (Key × V)} {k : Key} {u : Value} {A : Around} {E : Value → Shared → Prop}
end
section
variable {X : Cx} {o i e value : Expr} {pos pos' tpos : Pos} {td ty tv : TE}
end
theorem dk_empty {P : Program} {w : World} {H : Hp} (h : Heap) (hb : sysModules < h.objs.size) : ObjOk P w H (h.push { cls := .type "dict", data := .dict #[] }) h.objs.size (.dK []) :=
  ⟨Nat.zero_le _, beq_eq_false_iff_ne.mpr (Ne.symm (Nat.ne_of_lt hb)), [], .nil, Heap.DictOf.new h⟩
def tDNewK : TE := fun _ H Q => ∀ p, H p = none → Q (.ref p) (upd H p (.dK []))
section
variable {X : Cx} {pos : Pos}
theorem pe_dnewK : PE X (.Dict [] [] pos) tDNewK := fun pins s σ H Q I h =>
  wpAny_Dict_empty ⟨.ref s.heap.objs.size, _, I.laid (a := s.heap.objs.size) (o := .dK []) (t' := s.toks) (fun _ _ q => Heap.get?_push_of_some _ q) (Nat.le_refl _) (dk_empty s.heap I.big), rfl, h _ (I.hok.fresh (Nat.le_refl _))⟩
end
structure M1 (X : Cx) (o : Expr) (m : Str) (apos : Pos) (e : Expr) (cpos : Pos) : Prop where
  base : attributeBase o m X.env (eval o X.env) = eval o X.env
  few : ((backTo cpos (starEach [e] X.env)).all (fun x => !x.1) && (backToKw cpos (keywordEach [] X.env)).all (fun x => x.1.isSome)
    && decide (([e] : List Expr).length + ([] : List Keyword).length + (if ([] : List Keyword).isEmpty then 0 else 1) < 30)) = true
  line : (apos.endLine == cpos.line) = true
  trees : backTo cpos (starEach [e] X.env) = [(false, eval e X.env)]
structure M2 (X : Cx) (o : Expr) (m : Str) (apos : Pos) (e f : Expr) (cpos : Pos) : Prop where
  base : attributeBase o m X.env (eval o X.env) = eval o X.env
  few : ((backTo cpos (starEach [e, f] X.env)).all (fun x => !x.1) && (backToKw cpos (keywordEach [] X.env)).all (fun x => x.1.isSome)
    && decide (([e, f] : List Expr).length + ([] : List Keyword).length + (if ([] : List Keyword).isEmpty then 0 else 1) < 30)) = true
  line : (apos.endLine == cpos.line) = true
  trees : backTo cpos (starEach [e, f] X.env) = [(false, eval e X.env), (false, eval f X.env)]
section
variable {X : Cx} {pins : List (Addr × Obj)} {σ : St} {H : Hp} {s : Shared} {a : Addr} {y d : V} {u r : Value} {o : Option V} {A : Around} {E : Value → Shared → Prop}
end
section
variable {X : Cx} {o e f : Expr} {apos cpos : Pos} {td ty tx : TE}
end
section
variable {X : Cx} {pins : List (Addr × Obj)} {σ : St} {H : Hp} {s : Shared} {a : Addr} {kvs : List (Key × V)} {A : Around} {E : Value → Shared → Prop}
end
section
variable {X : Cx} {pins : List (Addr × Obj)} {σ : St} {H : Hp} {s : Shared} {a : Addr} {y : V} {u : Value} {A : Around} {E : Value → Shared → Prop}
end
end L2
namespace L2
open PySem PySem.Spec PyProof.Rows
section
variable {X : Cx}
end
section
variable {κ : Type} [DecidableEq κ]
end
end L2
set_option Elab.async false
set_option linter.all false
set_option maxRecDepth 100000
set_option maxHeartbeats 4000000
namespace L2
open PySem PySem.Spec PyProof.Rows
theorem Inv.adopt {X : Cx} {pins : List (Addr × Obj)} {σ : St} {H : Hp} {s : Shared} {a : Addr} {o : HO} (I : Inv X pins σ H s) (hn : H a = none) (hs : X.s₀.heap.objs.size ≤ a) (hL : a ≠ X.env.locals) (hC : ∀ x c, X.env.cells.lookup x = some c → c ≠ a) (hp : ∀ p ∈ X.pn ++ pins, p.1 ≠ a)
    (new : ObjOk X.prog X.w (upd H a o) s.heap a o) : Inv X pins σ (upd H a o) s := by
  have ne : ∀ b u, X.s₀.heap.get? b = some u → b ≠ a := fun b u e => Nat.ne_of_lt (Nat.lt_of_lt_of_le (Heap.lt_size e) hs)
  refine ⟨I.ok, I.os, I.bare, ⟨I.base.keep, I.base.slot, fun b u e n hx => ?_, I.base.there, fun b xs e => ?_, fun b u xs e => ?_, fun b ps e => ?_⟩, I.loc, I.cell, ?_, fun x c e => ?_, fun p hq => ?_, fun b u e => ?_, I.len⟩
  · rw [upd_ne (ne b u e)]; exact I.base.free b u e n hx
  · have q := I.base.tups b xs e
    rw [upd_ne (ne_of_none q hn)]; exact q
  · have q := I.base.frzs b u xs e
    rw [upd_ne (ne_of_none q hn)]; exact q
  · obtain ⟨m, q⟩ := I.base.tbls b ps e
    exact ⟨m, by rw [upd_ne (ne_of_none q hn)]; exact q⟩
  · rw [upd_ne (Ne.symm hL)]; exact I.free
  · rw [upd_ne (hC x c e)]; exact I.freeC x c e
  · obtain ⟨h1, h2, h3⟩ := I.pin p hq
    exact ⟨h1, by rw [upd_ne (hp p hq)]; exact h2, h3⟩
  · by_cases hb : b = a
    · subst hb; rw [upd_same] at e; cases e; exact new
    · rw [upd_ne hb] at e
      exact (I.hok b u e).stay (fun c v _ q => q) (fun c q => by rw [upd_ne (ne_of_none q hn)]; exact q) fun c xs q => by rw [upd_ne (ne_of_none q hn)]; exact q
def CellsIn (E : Env) : List (Str × Addr) → Prop
  | [] => True
  | p :: r => E.cells.lookup p.1 = some p.2 ∧ CellsIn E r
theorem CellsIn.get {E : Env} : ∀ {cl : List (Str × Addr)} {x : Str} {c : Addr}, CellsIn E cl → cl.lookup x = some c → E.cells.lookup x = some c := by
  intro cl x c h e
  have hm := PySem.mem_of_lookup e
  clear e
  induction cl with
  | nil => exact nomatch hm
  | cons p r ih =>
    rcases List.mem_cons.mp hm with q | q
    · have := h.1
      rw [← q] at this
      exact this
    · exact ih h.2 q
def CapOk (XE : Env) (sc : Scope) (XN : List Str) : List Str → List (Option Nat) → Prop
  | [], [] => True
  | _ :: n, none :: c => CapOk XE sc XN n c
  | x :: n, some i :: c => (XN[i]? = some x ∧ (XE.kindOf x = some .cell ∨ XE.kindOf x = some .free) ∧ (sc.names.lookup x = some .cell ∨ sc.names.lookup x = some .free)) ∧ CapOk XE sc XN n c
  | _, _ => False
def capV (σ : St) (o : Option Nat) : Option V := match o with
  | none => none
  | some i => (σ[i]?).join
def capSt (cap : List (Option Nat)) (σ : St) : St := cap.map (capV σ)
theorem CapOk.len {XE : Env} {sc : Scope} {XN : List Str} : ∀ {n : List Str} {c : List (Option Nat)}, CapOk XE sc XN n c → c.length = n.length
  | [], [], _ => rfl
  | _ :: _, none :: _, h => congrArg (· + 1) (CapOk.len (n := _) (c := _) h)
  | _ :: _, some _ :: _, h => congrArg (· + 1) (CapOk.len h.2)
  | [], _ :: _, h => (show False from h).elim
  | _ :: _, [], h => (show False from h).elim
theorem CapOk.get {XE : Env} {sc : Scope} {XN : List Str} {σ : St} : ∀ {n : List Str} {c : List (Option Nat)} {j : Nat} {x : Str} {v : V}, CapOk XE sc XN n c → n[j]? = some x → (capSt c σ)[j]? = some (some v) →
    ∃ i : Nat, XN[i]? = some x ∧ σ[i]? = some (some v) ∧ (XE.kindOf x = some .cell ∨ XE.kindOf x = some .free) ∧ (sc.names.lookup x = some .cell ∨ sc.names.lookup x = some .free)
  | [], [], _, _, _, _, h, _ => by simp at h
  | y :: n, none :: c, 0, x, v, _, _, e => by simp [capSt, capV] at e
  | y :: n, none :: c, j + 1, x, v, h, h1, e => CapOk.get (n := n) (c := c) (j := j) h (by simpa using h1) (by simpa [capSt] using e)
  | y :: n, some i :: c, 0, x, v, h, h1, e => by
    simp at h1; subst h1
    refine ⟨i, h.1.1, ?_, h.1.2⟩
    simp only [capSt, capV, List.map_cons, List.getElem?_cons_zero] at e
    cases q : σ[i]? with
    | none => rw [q] at e; simp at e
    | some w => rw [q] at e; simp at e; rw [e]
  | y :: n, some i :: c, j + 1, x, v, h, h1, e => CapOk.get (n := n) (c := c) (j := j) h.2 (by simpa using h1) (by simpa [capSt] using e)
  | [], _ :: _, _, _, _, h, _, _ => (show False from h).elim
  | _ :: _, [], _, _, _, h, _, _ => (show False from h).elim
def cxComp (X : Cx) (scope : Scope) (cl : List (Str × Addr)) (NY : List Str) (fp : List Addr) (s : Shared) (H : Hp) (C : Addr) : Cx where
  prog := X.prog
  w := X.w
  K := X.K
  mg := X.mg
  base := X.base
  A := X.A
  N := NY
  s₀ := s
  H₀ := H
  env := compEnvC scope cl C X.env
  outer := X.stack
  stack := X.stack
  ex := fp
  fn := fun _ => false
  calm := X.calm
  pn := []
  xe := fun _ _ => False
def PIfs (X : Cx) (ifs : List Expr) (t : TT) : Prop :=
  ∀ (pins : List (Addr × Obj)) (s : Shared) (σ : St) (H : Hp) (Q : Bool → Hp → Prop), Inv X pins σ H s → t σ H Q →
    wpAny (model X.prog X.w) X.A (forIn ifs true fun c r => if r = true then do let ok ← isTrue c X.env (eval c X.env); pure (ForInStep.yield ok) else pure (ForInStep.yield r)) (TP X pins σ Q) X.xe s
theorem pifs_nil {X : Cx} : PIfs X [] (fun _ H Q => Q true H) := fun _ _ _ H _ I h => wpAny_tests_nil ⟨H, I, h⟩
theorem pifs_one {X : Cx} {c : Expr} {t : TT} (h : PT X c t) : PIfs X [c] t := fun pins s σ H Q I q => wpAny_tests_one (h pins s σ H Q I q)
theorem compLoopG {prog : Program} {w : World} {A : Around} {R : Result → Shared → Prop} {s : Shared} {elt target iter : Expr} {ifs : List Expr} {scope : Scope} {pos : Pos} {it acc : Value} {env : Env} (J : Nat → Shared → Prop)
    (turn : ∀ n s, J n s → wpAny (model prog w) A (pyNext it) (fun r s₁ => match r with
      | none => R (.ok .next) s₁
      | some v => wpAny (model prog w) A (letOwnedTupleGo target it v) (fun _ s₁' => wpAny (model prog w) A (assign target env v) (fun _ s₂ =>
          wpAny (model prog w) A (forIn ifs true fun c r => if r = true then do let ok ← isTrue c env (eval c env); pure (ForInStep.yield ok) else pure (ForInStep.yield r)) (fun ok s₃ =>
            if ok = true then wpAny (model prog w) A (eval elt env) (fun x s₄ =>
              wpAny (model prog w) A (call (.builtin "list.append") [acc, x]) (fun _ s₅ => ∃ m, m < n ∧ J m s₅) (fun _ _ => False) s₄) (fun _ _ => False) s₃
            else ∃ m, m < n ∧ J m s₃) (fun _ _ => False) s₂) (fun _ _ => False) s₁') (fun _ _ => False) s₁) (fun _ _ => False) s)
    (n : Nat) (h : J n s) :
    codeAny (model prog w) A (.compLoop (.ListComp elt [⟨target, iter, ifs, 0⟩] scope pos) 0 it acc env) R s := by
  refine codeAny_loop rfl J (fun n s hI => ?_) n h
  show wpAny _ A ((compTurn (.ListComp elt [⟨target, iter, ifs, 0⟩] scope pos) 0 it acc env).onRaise (fun x => do noteFrame x env; theTreesLotGoes x)) _ _ s
  refine wpAny_noted ?_
  rw [compTurn_list]
  refine wpAny_bind (wpAny_standAt (wpAny_bind (wpAny_mono (turn n s hI) (fun r s₁ h₁ => ?_) fun _ _ h' => h'.elim)))
  cases r with
  | none => exact wpAny_pure h₁
  | some v =>
    refine wpAny_bind (wpAny_mono h₁ (fun _ s₁' h₁' => ?_) fun _ _ h' => h'.elim)
    refine wpAny_bind (wpAny_mono h₁' (fun _ s₂ h₂ => wpAny_bind (wpAny_mono h₂ (fun ok s₃ h₃ => ?_) fun _ _ h' => h'.elim)) fun _ _ h' => h'.elim)
    cases ok with
    | false => exact wpAny_pure ⟨rfl, h₃⟩
    | true =>
      exact wpAny_bind (wpAny_bind (wpAny_mono h₃ (fun x s₄ h₄ => wpAny_bind (wpAny_mono h₄ (fun _ s₅ h₅ => wpAny_pure (wpAny_pure ⟨rfl, h₅⟩)) fun _ _ h' => h'.elim)) fun _ _ h' => h'.elim))
abbrev LcIn (cap : List (Option Nat)) (g : TG) (tt : TT) (te : TE) (σ : St) (Q : VK) (J : It) (H1 : Hp) : Prop := ∃ W : Nat → Nat → List V → Hp → Prop, (∃ m, W 0 m [] H1) ∧ ∀ i m ys H, W i m ys H →
  (J.stop i H ∧ ∀ p, H p = none → Q (.ref p) (upd H p (.lst ys))) ∨
  (J.go i H ∧ ys.length < sizeLine ∧ ∀ x H', J.yld i H x H' → g x (capSt cap σ) H' fun σ2 H2 => tt σ2 H2 fun b H3 => if b = true then te σ2 H3 fun v H4 => ∃ m', m' < m ∧ W (i + 1) m' (ys ++ [v]) H4 else ∃ m', m' < m ∧ W (i + 1) m' ys H3)
def tLc (cap : List (Option Nat)) (wi : TI) (g : TG) (tt : TT) (te : TE) : TE := fun σ H Q => wi σ H (LcIn cap g tt te σ Q)
section
variable {X : Cx}
theorem pe_lc {elt tg iter : Expr} {ifs : List Expr} {scope : Scope} {pos : Pos} {cl : List (Str × Addr)} {NY : List Str} {cap : List (Option Nat)} {wi : TI} {g : TG} {tt : TT} {te : TE} (hc : X.calm = true) (hi : PI X tg iter wi)
    (hclos : closureFor scope X.env = pure cl) (hci : CellsIn X.env cl) (hcap : CapOk X.env (relabel scope X.env) X.N NY cap)
    (hb : ∀ fp s H C, PG (cxComp X scope cl NY fp s H C) tg g ∧ PIfs (cxComp X scope cl NY fp s H C) ifs tt ∧ PE (cxComp X scope cl NY fp s H C) elt te)
    (hkind : scope.kind = .function := by rfl) (hnc : (scope.names.all fun y => y.2 != .cell) = true := by rfl)
    (hnames : (scope.names.all fun y => y.2 != .local || scope.names.lookup y.1 == some .local) = true := by rfl)
    (hhas : ((relabel scope X.env).names.all fun p => (p.2 != .cell && p.2 != .free) || (cl.lookup p.1).isSome) = true := by rfl)
    (hs : ∀ x, foldedSetIterable iter X.env x = pure x := by intro _; rfl) :
    PE X (.ListComp elt [⟨tg, iter, ifs, 0⟩] scope pos) (tLc cap wi g tt te) := by
  have hnc' : ∀ y ∈ scope.names, y.2 ≠ .cell := fun y hy => by
    have q := List.all_eq_true.mp hnc y hy
    simpa using q
  have hnames' : ∀ y ∈ scope.names, y.2 = .local → scope.names.lookup y.1 = some .local := fun y hy e => by
    have q := List.all_eq_true.mp hnames y hy
    rw [e] at q
    simpa using q
  intro pins s σ H Q I h
  rw [eval_ListComp]
  refine wpAny_comprehension_free (use := none) rfl hs hclos hkind hnames' (wpAny_mono (hi pins s σ H _ I h) (fun v s1 h1 => wpAny_mono h1 (fun itv s2 h2 => ?_) fun _ _ e => e) fun _ _ e => e)
  obtain ⟨it, fp, tn, J, H2, e, I2, T, st2, f2, W, ⟨m0, w0⟩, turn⟩ := h2
  subst e
  refine wpAny_newObj_type (wpAny_newFunctionEnv hnc' (by intro y hy; simp at hy) (fun h₁ hns₁ hsb₁ => ?_) hkind)
  dsimp only at hns₁ hsb₁ ⊢
  generalize hH2 : s2.heap.push { cls := .type "list", dict := none, data := .seq ([] : List Value).toArray } = G2 at hns₁ hsb₁ ⊢
  have hC : G2.objs.size = s2.heap.objs.size + 1 := by rw [← hH2, Heap.size_push]
  have hDC : s2.heap.objs.size ≠ G2.objs.size := by rw [hC]; exact Nat.ne_of_lt (Nat.lt_succ_self _)
  have hDlt : s2.heap.objs.size ≤ G2.objs.size := by rw [hC]; exact Nat.le_succ _
  have below : ∀ b, b < s2.heap.objs.size → b ≠ G2.objs.size ∧ b ≠ s2.heap.objs.size := fun b hb => ⟨by rw [hC]; exact Nat.ne_of_lt (Nat.lt_succ_of_lt hb), Nat.ne_of_lt hb⟩
  have old : ∀ b o, s2.heap.get? b = some o → h₁.get? b = some o := fun b o e => hsb₁.extBut b o (below b (Heap.lt_size e)).1 (Heap.get?_push_of_some _ (hH2 ▸ Heap.get?_push_of_some _ e))
  have hacc : h₁.get? s2.heap.objs.size = some { cls := .type "list", data := .seq ([] : List Value).toArray 0 } := hsb₁.extBut _ _ hDC (Heap.get?_push_of_some _ (hH2 ▸ Heap.get?_push_size _ rfl))
  have fpl : ∀ b ∈ fp, b < s2.heap.objs.size := fun b hb => by
    obtain ⟨o, e, _⟩ := T.obj _ _ st2 b hb
    exact Heap.lt_size e
  have freshD : H2 s2.heap.objs.size = none := I2.hok.fresh (Nat.le_refl _)
  have freshC : H2 G2.objs.size = none := I2.hok.fresh hDlt
  have cellLt : ∀ x c, X.env.cells.lookup x = some c → c < s2.heap.objs.size := fun x c e => by
    obtain ⟨v, q⟩ := I2.cell x c e
    exact q.lt
  have hclX : ∀ x c, cl.lookup x = some c → X.env.cells.lookup x = some c := fun x c e => hci.get e
  obtain ⟨hbg, hbt, hbe⟩ := hb fp s2 H2 G2.objs.size
  have okY : (cxComp X scope cl NY fp s2 H2 G2.objs.size).Ok := by
    refine ⟨I2.ok.mod, hkind, I2.ok.glob, I2.ok.blt, hDlt, fun x y c e1 e2 => I2.ok.inj x y c (hclX x c e1) (hclX y c e2), fun x hx => ?_, fun x c hf _ => ?_, I2.ok.hd, I2.ok.frames, .inl rfl, fun b hb => ⟨(below b (fpl b hb)).1, fun x c e z => ?_⟩, I2.bs,
      Nat.le_trans I2.ok.bsz I2.sz, fun b o e hb => ?_, fun b hb hz => ?_, I2.stack, I2.stkFree⟩
    · have hx' : (relabel scope X.env).names.lookup x = some .cell ∨ (relabel scope X.env).names.lookup x = some .free := hx
      have key : ∀ k, (relabel scope X.env).names.lookup x = some k → (k = .cell ∨ k = .free) → ∃ c, cl.lookup x = some c := fun k e hk => by
        have q := List.all_eq_true.mp hhas (x, k) (PySem.mem_of_lookup e)
        have q' : (cl.lookup x).isSome = true := by
          rcases hk with rfl | rfl <;> simpa using q
        exact Option.isSome_iff_exists.mp q'
      rcases hx' with e | e
      · exact key _ e (.inl rfl)
      · exact key _ e (.inr rfl)
    · exact absurd (show false = true from hf) Bool.false_ne_true
    · exact (f2 b hb).2.2.2.2.1 x c (hclX x c e) z
    · rcases (f2 b hb).2.2.2.1 with z | z
      · exact I2.ok.noex b o e z
      · exact absurd (Nat.lt_of_lt_of_le (Heap.lt_size (I2.ok.bs b o e).1) z) (Nat.lt_irrefl _)
    · rcases List.mem_cons.mp (I2.stkSub b hz) with z | z
      · exact (f2 b hb).2.1 z
      · exact (f2 b hb).2.2.1 z
  have fpYs : ∀ {H' : Hp} {n : Nat} {its : List Value}, (∀ b ∈ fp, H' b = none) → ∀ b ∈ fp, FpOk (cxComp X scope cl NY fp s2 H2 G2.objs.size) [(s2.heap.objs.size, { cls := .type "list", data := .seq its.toArray n })] H' b := fun {H' n its} hn b hb => by
    refine ⟨hn b hb, (below b (fpl b hb)).1, fun hz => ?_, .inl hb, fun x c e => (f2 b hb).2.2.2.2.1 x c (hclX x c e), fun p hp => ?_⟩
    · rcases List.mem_cons.mp (I2.stkSub b hz) with z | z
      · exact (f2 b hb).2.1 z
      · exact (f2 b hb).2.2.1 z
    · have e : p = (s2.heap.objs.size, { cls := .type "list", data := .seq its.toArray n }) := by simpa [cxComp] using hp
      rw [e]
      exact Ne.symm (below b (fpl b hb)).2
  have nostk : ∀ b, s2.heap.objs.size ≤ b → b ∉ frs X.stack := fun b hb hz => by
    rcases List.mem_cons.mp (I2.stkSub b hz) with z | z
    · have := I2.lt; rw [← z] at this; exact absurd (Nat.lt_of_lt_of_le this hb) (Nat.lt_irrefl _)
    · exact I2.nofs hb z
  have IY0 : Inv (cxComp X scope cl NY fp s2 H2 G2.objs.size) [(s2.heap.objs.size, { cls := .type "list", data := .seq ([] : List Value).toArray 0 })] (capSt cap σ) H2 { s2 with heap := h₁, toks := s2.toks + ([] : List (Str × Value)).length } := by
    refine ⟨okY, rfl, I2.bare, Un.kept old, ⟨_, hns₁, fun j x v e1 e2 e3 => ?_⟩, fun x c e => ?_, freshC, fun x c e => I2.freeC x c (hclX x c e), fun p hp => ?_, I2.hok.kept old, ?_⟩
    · obtain ⟨i, h1, h2, h3, h4⟩ := CapOk.get (σ := σ) hcap e1 e2
      obtain ⟨m, hn, hl⟩ := I2.loc
      have vis : Vis X.env.scope x := by rcases h3 with z | z; exact .inr (.inl z); exact .inr (.inr z)
      obtain ⟨u, r, l⟩ := hl i x v h1 h2 vis
      refine ⟨u, r, .inr ⟨h4, ?_⟩⟩
      rcases l with ⟨k, _⟩ | ⟨_, c, e, z⟩
      · rcases h3 with z | z <;> (rw [k] at z; cases z)
      · obtain ⟨c', e'⟩ := okY.has x h4
        have e' : cl.lookup x = some c' := e'
        have e'' := hclX x c' e'
        rw [e] at e''
        cases e''
        obtain ⟨o, ho, hd⟩ := z
        exact ⟨c, e', o, old _ _ ho, hd⟩
    · obtain ⟨v, o, ho, hd⟩ := I2.cell x c (hclX x c e)
      exact ⟨v, o, old _ _ ho, hd⟩
    · have e : p = (s2.heap.objs.size, { cls := .type "list", data := .seq ([] : List Value).toArray 0 }) := by simpa [cxComp] using hp
      rw [e]
      exact ⟨hacc, freshD, hDC, nostk _ (Nat.le_refl _), fun v z => by cases z⟩
    · show (capSt cap σ).length = NY.length
      unfold capSt
      rw [List.length_map]
      exact hcap.len
  have hcY : (cxComp X scope cl NY fp s2 H2 G2.objs.size).calm = true := hc
  have stW : tn 0 h₁ := T.keep _ _ _ st2 fun b _ o e => old b o e
  have loop : ∀ s₃ : Shared, s₃ = { s2 with heap := h₁, toks := s2.toks + ([] : List (Str × Value)).length } →
      codeAny (model X.prog X.w) X.A (.compLoop (.ListComp elt [⟨tg, iter, ifs, 0⟩] scope pos) 0 (.ref it) (.ref s2.heap.objs.size) (compEnvC scope cl G2.objs.size X.env))
        (compPost (model X.prog X.w) X.A X.xe none (EP X pins σ Q) (.ref s2.heap.objs.size) G2.objs.size) s₃ := by
    rintro s₃ rfl
    refine compLoopG (fun n s' => ∃ i ys its k H', Inv (cxComp X scope cl NY fp s2 H2 G2.objs.size) [(s2.heap.objs.size, { cls := .type "list", data := .seq its.toArray k })] (capSt cap σ) H' s' ∧ Vals ys its ∧ ys.length ≤ sizeLine ∧ tn i s'.heap ∧ (∀ b ∈ fp, H' b = none) ∧ W i n ys H') ?_ m0
      ⟨0, [], [], 0, H2, IY0, .nil, Nat.zero_le _, stW, fun b hb => (f2 b hb).1, w0⟩
    rintro n s3 ⟨i, ys, its, k, H3, I3, rv, hz, st3, fr3, w3⟩
    rcases turn i n ys H3 w3 with ⟨stop, qn⟩ | ⟨go, hlt, step⟩
    · refine wpAny_mono (T.done (cxComp X scope cl NY fp s2 H2 G2.objs.size) rfl rfl rfl hcY i _ s3 _ H3 (fun _ _ => False) I3 (fpYs fr3) st3 stop) (fun r s4 ⟨hr, I4⟩ => ?_) fun _ _ z => z
      subst hr
      obtain ⟨m, hnC, _⟩ := id I4.loc
      have hnC : s4.heap.Ns G2.objs.size m := hnC
      refine ⟨m, hnC, fun h' hsb => ?_⟩
      have pD := (I4.pin (s2.heap.objs.size, { cls := .type "list", data := .seq its.toArray k }) (by simp [cxComp]))
      have un : Un (frs X.stack) fp H2 H3 s2.heap s4.heap := I4.base
      have I5 : Inv X pins σ H3 s4 := I2.call' (ch := fp) I4.os un I4.hok I4.bare fun b hb => ⟨(f2 b hb).2.2.2.1, (f2 b hb).2.1, (f2 b hb).2.2.2.2.1, (f2 b hb).2.2.2.2.2⟩
      have cC : H3 G2.objs.size = none := I4.free
      have szX : X.s₀.heap.objs.size ≤ s2.heap.objs.size := I2.sz
      have I6 : Inv X pins σ H3 { s4 with heap := h' } := I5.turned (t' := s4.toks) (it := G2.objs.size) (fun b o hb e => hsb.extBut b o hb e) cC (Nat.ne_of_gt (Nat.lt_of_lt_of_le I2.lt hDlt)) (.inr (Nat.le_trans szX hDlt))
        (fun x c e z => absurd (cellLt x c e) (by rw [z]; exact Nat.not_lt.mpr hDlt)) (fun p hp z => absurd (Heap.lt_size (I2.pin p hp).1) (by rw [z]; exact Nat.not_lt.mpr hDlt))
      have I7 : Inv X pins σ (upd H3 s2.heap.objs.size (.lst ys)) { s4 with heap := h' } := I6.adopt pD.2.1 szX (Nat.ne_of_gt I2.lt) (fun x c e => Nat.ne_of_lt (cellLt x c e)) (fun p hp => Nat.ne_of_lt (Heap.lt_size (I2.pin p hp).1))
        ⟨hz, its, k, rv, hsb.extBut _ _ hDC pD.1⟩
      exact ⟨.ref s2.heap.objs.size, _, I7, rfl, qn _ pD.2.1⟩
    · refine wpAny_mono (T.item (cxComp X scope cl NY fp s2 H2 G2.objs.size) rfl rfl rfl hcY i _ s3 _ H3 (fun _ _ => False) I3 (fpYs fr3) st3 go) (fun r s4 ⟨u, hr, h4⟩ => ?_) fun _ _ z => z
      subst hr
      refine wpAny_mono h4 (fun _ s5 ⟨x, H5, I5, r5, y5, st5, fr5⟩ => ?_) fun _ _ z => z
      have I5' := I5.pinned (fpYs fr5) (T.obj _ _ st5)
      refine wpAny_mono (hbg _ s5 _ H5 x u _ I5' r5 (step x H5 y5)) (fun _ s6 ⟨σ6, H6, I6, q6⟩ => ?_) fun _ _ z => z
      refine wpAny_mono (hbt _ s6 σ6 H6 _ I6 q6) (fun ok s7 ⟨H7, I7, q7⟩ => ?_) fun _ _ z => z
      have lenY : ∀ {σ' : St} {pn} {H'} {s'}, Inv (cxComp X scope cl NY fp s2 H2 G2.objs.size) pn σ' H' s' → (capSt cap σ).length = σ'.length := fun {σ' pn H' s'} Z => IY0.len.trans Z.len.symm
      have captured : ∀ {σ' : St} {pn} {H'} {s'}, Inv (cxComp X scope cl NY fp s2 H2 G2.objs.size) pn σ' H' s' → Inv (cxComp X scope cl NY fp s2 H2 G2.objs.size) pn (capSt cap σ) H' s' := fun {σ' pn H' s'} Z => by
        refine ⟨Z.ok, Z.os, Z.bare, Z.base, ?_, Z.cell, Z.free, Z.freeC, Z.pin, Z.hok, IY0.len⟩
        obtain ⟨m, hn, _⟩ := Z.loc
        refine ⟨m, hn, fun j x v e1 e2 e3 => ?_⟩
        obtain ⟨i', h1, h2, h3, h4⟩ := CapOk.get (σ := σ) hcap e1 e2
        obtain ⟨m', hn', hl⟩ := I2.loc
        have vis : Vis X.env.scope x := by rcases h3 with z | z; exact .inr (.inl z); exact .inr (.inr z)
        obtain ⟨u, r, l⟩ := hl i' x v h1 h2 vis
        refine ⟨u, r, .inr ⟨h4, ?_⟩⟩
        rcases l with ⟨kk, _⟩ | ⟨_, c, e, z⟩
        · rcases h3 with z | z <;> (rw [kk] at z; cases z)
        · obtain ⟨c', e'⟩ := okY.has x h4
          have e' : cl.lookup x = some c' := e'
          have e'' := hclX x c' e'
          rw [e] at e''
          cases e''
          obtain ⟨o, ho, hd⟩ := z
          have nfp : c ∉ fp := fun hz => (f2 c hz).2.2.2.2.1 x c e rfl
          obtain ⟨sl, q⟩ := Z.base.any (show s2.heap.get? c = some o from ho) (I2.freeC x c e) nfp
          exact ⟨c, e', _, q, hd⟩
      have again : ∀ {ys' : List V} {its' : List Value} {k' : Nat} {σ' : St} {H' : Hp} {s' : Shared}, Inv (cxComp X scope cl NY fp s2 H2 G2.objs.size) ([(s2.heap.objs.size, { cls := .type "list", data := .seq its'.toArray k' })] ++ pinsAt fp s5.heap) σ' H' s' → Vals ys' its' → ys'.length ≤ sizeLine →
          (∃ m', m' < n ∧ W (i + 1) m' ys' H') → ∃ m, m < n ∧ ∃ i ys its k H', Inv (cxComp X scope cl NY fp s2 H2 G2.objs.size) [(s2.heap.objs.size, { cls := .type "list", data := .seq its.toArray k })] (capSt cap σ) H' s' ∧ Vals ys its ∧ ys.length ≤ sizeLine ∧ tn i s'.heap ∧ (∀ b ∈ fp, H' b = none) ∧ W i m ys H' := fun {ys' its' k' σ' H' s'} Z rv' hz' hw => by
        obtain ⟨m', hm, w'⟩ := hw
        refine ⟨m', hm, i + 1, ys', its', k', H', captured Z.unpinned, rv', hz', T.keep _ _ _ st5 fun b hb o e => (Z.pin (b, o) (List.mem_append_right _ (List.mem_append_right _ (mem_pinsAt hb e)))).1, fun b hb => ?_, w'⟩
        obtain ⟨o, e, d⟩ := T.obj _ _ st5 b hb
        exact (Z.pin (b, o) (List.mem_append_right _ (List.mem_append_right _ (mem_pinsAt hb e)))).2.1
      cases ok with
      | false =>
        rw [if_neg Bool.false_ne_true] at q7 ⊢
        exact again I7 rv hz q7
      | true =>
        rw [if_pos rfl] at q7 ⊢
        refine wpAny_mono (hbe _ s7 σ6 H7 _ I7 q7) (fun xv s8 ⟨v, H8, I8, r8, q8⟩ => ?_) fun _ _ z => z
        have pD := I8.pin (s2.heap.objs.size, { cls := .type "list", data := .seq its.toArray k }) (by simp [cxComp])
        have hlen := rv.length
        refine append_at pD.1 (fun h9 hs9 hD9 => ?_) (by rw [List.size_toArray]; omega)
        have I9 : Inv (cxComp X scope cl NY fp s2 H2 G2.objs.size) (pinsAt fp s5.heap) σ6 H8 s8 := I8.pins_of fun p hp => I8.pin p (List.mem_append_right _ (List.mem_append_right _ hp))
        have I10 : Inv (cxComp X scope cl NY fp s2 H2 G2.objs.size) (pinsAt fp s5.heap) σ6 H8 { s8 with heap := h9 } := I9.turned (t' := s8.toks) (it := s2.heap.objs.size) (fun b o hb e => hs9.extBut b o hb e) pD.2.1 hDC (.inr (Nat.le_refl _))
          (fun x c e => Nat.ne_of_lt (cellLt x c (hclX x c e))) fun p hp => by
            have hp' : p ∈ pinsAt fp s5.heap := by simpa [cxComp] using hp
            exact Ne.symm (Ne.symm (below _ (fpl _ (of_pinsAt hp').1)).2)
        have I11 : Inv (cxComp X scope cl NY fp s2 H2 G2.objs.size) ([(s2.heap.objs.size, { cls := .type "list", data := .seq (its ++ [xv]).toArray (k + 1) })] ++ pinsAt fp s5.heap) σ6 H8 { s8 with heap := h9 } := I10.pins_of fun p hp => by
          rcases List.mem_append.mp hp with z | z
          · have e : p = (s2.heap.objs.size, { cls := .type "list", data := .seq (its ++ [xv]).toArray (k + 1) }) := by simpa using z
            rw [e]
            refine ⟨?_, pD.2.1, hDC, nostk _ (Nat.le_refl _), fun v z => by cases z⟩
            rw [List.push_toArray] at hD9
            exact hD9
          · exact I10.pin p (List.mem_append_right _ z)
        exact again I11 (rv.append (.cons r8 .nil)) (by rw [List.length_append, List.length_singleton]; exact hlt) q8
  exact codeAny_compStart_list (loop _ rfl) (T.self _ 0 _ _ _ stW (loop _ rfl))
end
end L2
set_option Elab.async false
set_option linter.all false
set_option maxRecDepth 100000
set_option maxHeartbeats 4000000
namespace L2
open PySem PySem.Spec PyProof.Rows
section
variable {X : Cx}
theorem call_isinst {n : String} : CallR X (.builtin "isinstance") (fun xs H Q => ∃ x t b, xs = [x, .ty n] ∧ TyOf X.K H x t ∧ PySem.W.kitOne X.K t (.type n) = some b ∧ Q (.bl b) H) := by
  intro pins s σ H xs us Q I r h
  obtain ⟨x, t, b, rfl, ty, e, q⟩ := h
  obtain ⟨u, w', rfl, rx, rt⟩ := vals2 r
  cases rt
  exact isinst_ok I rx ty e fun tk => ⟨.bl b, H, I.tok _, rfl, q⟩
theorem op_fdivB : OpR X (binaryOp .FloorDiv) (rI (fun _ j => 0 < j ∧ j < 2 ^ 64) fun i j => .int (i / j)) := opI fun i j _ _ _ _ _ hc q => by
  have h1 : (0 : Int) < j := hc.1
  have h2 : j < 2 ^ 64 := hc.2
  refine floordiv_int (by omega) (by rw [Int.fdiv_eq_ediv_of_nonneg i (by omega)]; exact q) (.inl (PyProof.noPylong_of_log2 ?_))
  have h3 : j.natAbs < 2 ^ 64 := by omega
  have h4 : j.natAbs ≠ 0 := by omega
  have h5 : j.natAbs.log2 < 64 := (Nat.log2_lt h4).mpr h3
  omega
def Cal (P : Program) (w : World) (K : PySem.W.Frag) (mg : Str → Option Value) (base : Heap) (x : Str) (k : Nat) (ps : List Str) (sp : Sp) : Prop :=
  ∃ f fd, FnOk P w K mg base CX0 k f fd ps sp ∧ Binds K fd ps [] ∧ PySem.W.keepIn K (.ref f) = true ∧ mg x = some (.ref f)
theorem pe_cal {x : Str} {k k' : Nat} {ps : List Str} {sp : Sp} {e : Expr} {es : List Expr} {t : TA} {p pos : Pos} (C : Cal X.prog X.w X.K X.mg X.base x k ps sp) (hr : Room k' X.A) (hk : k ≤ k') (hg : Gl X x) (ha : PA X (e :: es) t)
    (hdb : (x == ("__debug__" : Str)) = false := by decide) (he : starEach (e :: es) X.env = (false, eval e X.env) :: starEach es X.env := by rfl) (hpl : (backTo pos (starEach es X.env)).any (·.1) = false := by rfl) :
    PE X (.Call (.Name x p) (e :: es) [] pos) (tCall sp [] E0 t) := by
  obtain ⟨f, fd, F, b, kp, m⟩ := C
  exact pe_call F (hr.mono hk) hg m kp b .nil pass0 ha hdb he hpl
end
theorem Same.new {H : Hp} {p : Addr} (h : H p = none) (o : HO) : Same H (upd H p o) := fun b u q => by rw [upd_ne (ne_of_none q h)]; exact q
def But (w : Addr) (H H' : Hp) : Prop := ∀ b o, b ≠ w → H b = some o → H' b = some o
theorem But.refl {w : Addr} {H : Hp} : But w H H := fun _ _ _ h => h
theorem But.trans {w : Addr} {H H1 H2 : Hp} (a : But w H H1) (b : But w H1 H2) : But w H H2 := fun c o n h => b c o n (a c o n h)
theorem But.of {w : Addr} {H H' : Hp} (a : Same H H') : But w H H' := fun c o _ h => a c o h
theorem But.new {w : Addr} {H : Hp} {p : Addr} (h : H p = none) (o : HO) : But w H (upd H p o) := But.of (Same.new h o)
theorem But.put {w : Addr} {H : Hp} {o : HO} : But w H (upd H w o) := fun b u n q => by rw [upd_ne n]; exact q
end L2
set_option Elab.async false
set_option linter.all false
set_option maxRecDepth 100000
set_option maxHeartbeats 4000000
namespace Srt
open PySem PySem.W PyProof.Rows
def run {α : Type} (lt : Nat → Nat → Bool) : KasT α → α
  | .ret a => a
  | .ask i j k => run lt (k (lt i j))
theorem run_bind {α β : Type} (lt : Nat → Nat → Bool) (f : α → KasT β) : ∀ t : KasT α, run lt (t.bind f) = run lt (f (run lt t))
  | .ret _ => rfl
  | .ask i j k => run_bind lt f (k (lt i j))
section
variable (key : Nat → Int)
abbrev lt : Nat → Nat → Bool := fun i j => decide (key i < key j)
def kp (p : Array Nat) (x : Nat) : Int := key (p.getD x 0)
def Up (p : Array Nat) (m : Nat) : Prop := ∀ i j, i < j → j < m → kp key p i < kp key p j
def Down (p : Array Nat) (m : Nat) : Prop := ∀ i j, i < j → j < m → kp key p j < kp key p i
def Apart (p : Array Nat) (n : Nat) : Prop := ∀ i j, i < n → j < n → kp key p i = kp key p j → i = j
variable {key}
theorem asc_ok (p : Array Nat) : ∀ (f n : Nat), 1 ≤ n → Apart key p (n + f) → Up key p n →
    n ≤ run (lt key) (kas_asc p f n) ∧ run (lt key) (kas_asc p f n) ≤ n + f ∧ Up key p (run (lt key) (kas_asc p f n)) ∧ (run (lt key) (kas_asc p f n) < n + f → kp key p (run (lt key) (kas_asc p f n)) < kp key p (run (lt key) (kas_asc p f n) - 1))
  | 0, n, h1, ap, up => ⟨Nat.le_refl _, Nat.le_refl _, up, fun h => absurd h (Nat.lt_irrefl _)⟩
  | f + 1, n, h1, ap, up => by
    show _ ≤ run (lt key) (if lt key (p.getD n 0) (p.getD (n - 1) 0) = true then KasT.ret n else kas_asc p f (n + 1)) ∧ _
    by_cases c : lt key (p.getD n 0) (p.getD (n - 1) 0) = true
    · have e : run (lt key) (kas_asc p (f + 1) n) = n := by
        show run (lt key) (if lt key (p.getD n 0) (p.getD (n - 1) 0) = true then KasT.ret n else kas_asc p f (n + 1)) = n
        rw [if_pos c]; rfl
      rw [if_pos c]
      show n ≤ n ∧ run (lt key) (kas_asc p (f + 1) n) ≤ _ ∧ Up key p (run (lt key) (kas_asc p (f + 1) n)) ∧ _
      rw [e]
      exact ⟨Nat.le_refl _, by omega, up, fun _ => of_decide_eq_true c⟩
    · have e : run (lt key) (kas_asc p (f + 1) n) = run (lt key) (kas_asc p f (n + 1)) := by
        show run (lt key) (if lt key (p.getD n 0) (p.getD (n - 1) 0) = true then KasT.ret n else kas_asc p f (n + 1)) = _
        rw [if_neg c]
      have c' : ¬ kp key p n < kp key p (n - 1) := fun z => c (decide_eq_true z)
      have ne : kp key p n ≠ kp key p (n - 1) := fun z => by
        have := ap n (n - 1) (by omega) (by omega) z
        omega
      have up' : Up key p (n + 1) := fun i j hij hj => by
        by_cases hjn : j < n
        · exact up i j hij hjn
        · have : j = n := by omega
          subst this
          by_cases hi : i = j - 1
          · subst hi; omega
          · have := up i (j - 1) (by omega) (by omega)
            omega
      have ih := asc_ok p f (n + 1) (by omega) (by rw [show n + 1 + f = n + (f + 1) by omega]; exact ap) up'
      rw [if_neg c]
      show n ≤ _ ∧ run (lt key) (kas_asc p (f + 1) n) ≤ _ ∧ Up key p (run (lt key) (kas_asc p (f + 1) n)) ∧ _
      rw [e]
      refine ⟨by omega, by omega, ih.2.2.1, fun h => ih.2.2.2 (by omega)⟩
theorem desc_ok (p : Array Nat) : ∀ (f n : Nat), 2 ≤ n → Apart key p (n + f) → Down key p n →
    ∃ m, run (lt key) (kas_desc f p n 0) = (p, m, 0) ∧ n ≤ m ∧ m ≤ n + f ∧ Down key p m
  | 0, n, h1, ap, dn => ⟨n, rfl, Nat.le_refl _, Nat.le_refl _, dn⟩
  | f + 1, n, h1, ap, dn => by
    by_cases c : lt key (p.getD n 0) (p.getD (n - 1) 0) = true
    · have e : run (lt key) (kas_desc (f + 1) p n 0) = run (lt key) (kas_desc f p (n + 1) 0) := by
        show run (lt key) (if lt key (p.getD n 0) (p.getD (n - 1) 0) = true then (if 0 > 0 then _ else kas_desc f p (n + 1) 0) else _) = _
        rw [if_pos c, if_neg (by decide)]
      have c' : kp key p n < kp key p (n - 1) := of_decide_eq_true c
      have dn' : Down key p (n + 1) := fun i j hij hj => by
        by_cases hjn : j < n
        · exact dn i j hij hjn
        · have : j = n := by omega
          subst this
          by_cases hi : i = j - 1
          · subst hi; exact c'
          · have := dn i (j - 1) (by omega) (by omega)
            omega
      obtain ⟨m, e1, h2, h3, h4⟩ := desc_ok p f (n + 1) (by omega) (by rw [show n + 1 + f = n + (f + 1) by omega]; exact ap) dn'
      exact ⟨m, e.trans e1, by omega, by omega, h4⟩
    · have c' : ¬ kp key p n < kp key p (n - 1) := fun z => c (decide_eq_true z)
      have ne : kp key p n ≠ kp key p (n - 1) := fun z => by
        have := ap n (n - 1) (by omega) (by omega) z
        omega
      have d : lt key (p.getD (n - 1) 0) (p.getD n 0) = true := decide_eq_true (show kp key p (n - 1) < kp key p n by omega)
      refine ⟨n, ?_, Nat.le_refl _, by omega, dn⟩
      show run (lt key) (if lt key (p.getD n 0) (p.getD (n - 1) 0) = true then _ else KasT.ask (p.getD (n - 1) 0) (p.getD n 0) fun d => if d = true then KasT.ret (p, n, 0) else kas_desc f p (n + 1) (0 + 1)) = _
      rw [if_neg c]
      show run (lt key) (if lt key (p.getD (n - 1) 0) (p.getD n 0) = true then KasT.ret (p, n, 0) else kas_desc f p (n + 1) (0 + 1)) = _
      rw [if_pos d]; rfl
theorem kp_rev {p : Array Nat} {n x : Nat} (hn : n ≤ p.size) : kp key (kas_rev p 0 n) x = if x < n then kp key p (n - 1 - x) else kp key p x := by
  have e := getElem?_mirror_all (i := 0) hn x
  have g : ∀ (a b : Array Nat) (i j : Nat), a[i]? = b[j]? → a.getD i 0 = b.getD j 0 := fun a b i j h => by
    rw [Array.getD_eq_getD_getElem?, Array.getD_eq_getD_getElem?, h]
  by_cases h : x < n
  · rw [if_pos h]
    rw [if_pos ⟨Nat.zero_le _, h⟩] at e
    unfold kp kas_rev
    rw [g _ _ _ _ e, show 0 + n - 1 - x = n - 1 - x by omega]
  · rw [if_neg h]
    rw [if_neg (fun z => h z.2)] at e
    unfold kp kas_rev
    rw [g _ _ _ _ e]
theorem count_ok {p : Array Nat} {n : Nat} (h1 : 1 ≤ n) (hs : p.size = n) (ap : Apart key p n) :
    ∃ m p', run (lt key) (kas_count n p) = (m, p') ∧ 1 ≤ m ∧ m ≤ n ∧ p'.Perm p ∧ Up key p' m := by
  have a := asc_ok (key := key) p (n - 1) 1 (Nat.le_refl _) (by rw [show 1 + (n - 1) = n by omega]; exact ap) (fun i j hij hj => by omega)
  have e : run (lt key) (kas_count n p) = run (lt key) (if (run (lt key) (kas_asc p (n - 1) 1) == n) = true then KasT.ret (run (lt key) (kas_asc p (n - 1) 1), p) else if run (lt key) (kas_asc p (n - 1) 1) > 1 then
      KasT.ask (p.getD 0 0) (p.getD (run (lt key) (kas_asc p (n - 1) 1) - 1) 0) fun c => if c = true then KasT.ret (run (lt key) (kas_asc p (n - 1) 1), p) else kas_descPart (run (lt key) (kas_asc p (n - 1) 1)) n (kas_rev p 0 (run (lt key) (kas_asc p (n - 1) 1)))
      else kas_descPart (run (lt key) (kas_asc p (n - 1) 1)) n p) := run_bind _ _ _
  rw [e]
  generalize run (lt key) (kas_asc p (n - 1) 1) = r at a
  obtain ⟨a1, a2, a3, a4⟩ := a
  by_cases c1 : (r == n) = true
  · rw [if_pos c1]
    have : r = n := eq_of_beq c1
    exact ⟨r, p, rfl, a1, by omega, Array.Perm.refl _, a3⟩
  rw [if_neg c1]
  have rn : r ≠ n := fun z => c1 (by rw [z]; exact beq_self_eq_true n)
  by_cases c2 : r > 1
  · rw [if_pos c2]
    have d : lt key (p.getD 0 0) (p.getD (r - 1) 0) = true := decide_eq_true (show kp key p 0 < kp key p (r - 1) from a3 0 (r - 1) (by omega) (by omega))
    refine ⟨r, p, ?_, a1, by omega, Array.Perm.refl _, a3⟩
    show run (lt key) (if lt key (p.getD 0 0) (p.getD (r - 1) 0) = true then KasT.ret (r, p) else _) = _
    rw [if_pos d]; rfl
  · rw [if_neg c2]
    have r1 : r = 1 := by omega
    subst r1
    have d0 := a4 (by omega)
    have dn : Down key p 2 := fun i j hij hj => by
      have : i = 0 := by omega
      have : j = 1 := by omega
      subst i; subst j
      exact d0
    obtain ⟨m, e1, h2, h3, h4⟩ := desc_ok (key := key) p (n - 2) 2 (Nat.le_refl _) (by rw [show 2 + (n - 2) = n by omega]; exact ap) dn
    have hm : m ≤ p.size := by omega
    have up : Up key (kas_rev p 0 m) m := fun i j hij hj => by
      rw [kp_rev hm, kp_rev hm, if_pos (by omega), if_pos hj]
      exact h4 _ _ (by omega) (by omega)
    have ap' : Apart key (kas_rev p 0 m) (m + (n - m)) := fun i j hi hj z => by
      rw [kp_rev hm, kp_rev hm] at z
      by_cases ci : i < m
      · rw [if_pos ci] at z
        by_cases cj : j < m
        · rw [if_pos cj] at z
          have := ap _ _ (by omega) (by omega) z
          omega
        · rw [if_neg cj] at z
          have := ap _ _ (by omega) (by omega) z
          omega
      · rw [if_neg ci] at z
        by_cases cj : j < m
        · rw [if_pos cj] at z
          have := ap _ _ (by omega) (by omega) z
          omega
        · rw [if_neg cj] at z
          exact ap _ _ (by omega) (by omega) z
    have b := asc_ok (key := key) (kas_rev p 0 m) (n - m) m (by omega) ap' up
    refine ⟨run (lt key) (kas_asc (kas_rev p 0 m) (n - m) m), kas_rev p 0 m, ?_, by omega, by omega, mirror_perm _ _ _ _, b.2.2.1⟩
    show run (lt key) ((kas_desc (n - (1 + 1)) p (1 + 1) 0).bind _) = _
    rw [run_bind, e1]
    show run (lt key) (if 0 > 0 then _ else kas_tail3 m n p) = _
    rw [if_neg (by decide)]
    show run (lt key) ((kas_asc (kas_rev p 0 m) (n - m) m).bind _) = _
    rw [run_bind]; rfl
theorem place_ok {p : Array Nat} {k : Nat} (up : Up key p k) (ap : ∀ i, i < k → kp key p i ≠ kp key p k) : ∀ (f l r : Nat), l ≤ r → r ≤ k → r ≤ l + f → (∀ i, i < l → kp key p i < kp key p k) → (∀ i, r ≤ i → i < k → kp key p k < kp key p i) →
    run (lt key) (kas_place p k f l r) ≤ k ∧ (∀ i, i < run (lt key) (kas_place p k f l r) → kp key p i < kp key p k) ∧ (∀ i, run (lt key) (kas_place p k f l r) ≤ i → i < k → kp key p k < kp key p i)
  | 0, l, r, h1, h2, h3, h4, h5 => by
    have : l = r := by omega
    subst this
    exact ⟨h2, h4, h5⟩
  | f + 1, l, r, h1, h2, h3, h4, h5 => by
    show run (lt key) (if l ≥ r then KasT.ret l else KasT.ask (p.getD k 0) (p.getD ((l + r) / 2) 0) fun c => if c = true then kas_place p k f l ((l + r) / 2) else kas_place p k f ((l + r) / 2 + 1) r) ≤ k ∧ (∀ i, i < run (lt key) (kas_place p k (f + 1) l r) → _) ∧ (∀ i, run (lt key) (kas_place p k (f + 1) l r) ≤ i → _)
    by_cases c : l ≥ r
    · have : l = r := by omega
      subst this
      have e : run (lt key) (kas_place p k (f + 1) l l) = l := by
        show run (lt key) (if l ≥ l then KasT.ret l else _) = l
        rw [if_pos c]; rfl
      rw [if_pos c, e]
      exact ⟨h2, h4, h5⟩
    · have e : run (lt key) (kas_place p k (f + 1) l r) = run (lt key) (if lt key (p.getD k 0) (p.getD ((l + r) / 2) 0) = true then kas_place p k f l ((l + r) / 2) else kas_place p k f ((l + r) / 2 + 1) r) := by
        show run (lt key) (if l ≥ r then KasT.ret l else KasT.ask (p.getD k 0) (p.getD ((l + r) / 2) 0) fun c => if c = true then kas_place p k f l ((l + r) / 2) else kas_place p k f ((l + r) / 2 + 1) r) = _
        rw [if_neg c]; rfl
      have e' : run (lt key) (if l ≥ r then KasT.ret l else KasT.ask (p.getD k 0) (p.getD ((l + r) / 2) 0) fun c => if c = true then kas_place p k f l ((l + r) / 2) else kas_place p k f ((l + r) / 2 + 1) r) = run (lt key) (kas_place p k (f + 1) l r) := rfl
      rw [e', e]
      by_cases d : lt key (p.getD k 0) (p.getD ((l + r) / 2) 0) = true
      · rw [if_pos d]
        have d' : kp key p k < kp key p ((l + r) / 2) := of_decide_eq_true d
        refine place_ok up ap f l ((l + r) / 2) (by omega) (by omega) (by omega) h4 fun i hi hk => ?_
        by_cases hi' : i = (l + r) / 2
        · subst hi'; exact d'
        · have := up ((l + r) / 2) i (by omega) hk
          omega
      · rw [if_neg d]
        have d' : ¬ kp key p k < kp key p ((l + r) / 2) := fun z => d (decide_eq_true z)
        have ne := ap ((l + r) / 2) (by omega)
        refine place_ok up ap f ((l + r) / 2 + 1) r (by omega) h2 (by omega) (fun i hi => ?_) h5
        by_cases hi' : i = (l + r) / 2
        · subst hi'; omega
        · have := up i ((l + r) / 2) (by omega) (by omega)
          omega
theorem kp_bubble {p : Array Nat} {k d x : Nat} (hk : k < p.size) (hd : d ≤ k) : kp key (bubble p k d) x = if x = k - d then kp key p k else if k - d < x ∧ x ≤ k then kp key p (x - 1) else kp key p x := by
  have e := getElem?_bubble hk d hd x
  have g : ∀ (a b : Array Nat) (i j : Nat), a[i]? = b[j]? → a.getD i 0 = b.getD j 0 := fun a b i j h => by
    rw [Array.getD_eq_getD_getElem?, Array.getD_eq_getD_getElem?, h]
  unfold kp
  by_cases h1 : x = k - d
  · rw [if_pos h1] at e ⊢; rw [g _ _ _ _ e]
  · rw [if_neg h1] at e ⊢
    by_cases h2 : k - d < x ∧ x ≤ k
    · rw [if_pos h2] at e ⊢; rw [g _ _ _ _ e]
    · rw [if_neg h2] at e ⊢; rw [g _ _ _ _ e]
theorem bin_ok {n : Nat} : ∀ (f : Nat) (p : Array Nat) (k : Nat), p.size = n → k + f = n → Apart key p n → Up key p k → (run (lt key) (kas_bin f p k)).Perm p ∧ Up key (run (lt key) (kas_bin f p k)) n
  | 0, p, k, hs, hk, ap, up => ⟨Array.Perm.refl _, by have : k = n := by omega
                                                      subst this; exact up⟩
  | f + 1, p, k, hs, hk, ap, up => by
    have e : run (lt key) (kas_bin (f + 1) p k) = run (lt key) (kas_bin f (bubble p k (k - run (lt key) (kas_place p k k 0 k))) (k + 1)) := run_bind _ _ _
    have pl := place_ok (key := key) (p := p) (k := k) up (fun i hi z => by have := ap i k (by omega) (by omega) z; omega) k 0 k (Nat.zero_le _) (Nat.le_refl _) (by omega) (fun i hi => absurd hi (Nat.not_lt_zero _)) (fun i h1 h2 => by omega)
    rw [e]
    generalize run (lt key) (kas_place p k k 0 k) = l at pl
    obtain ⟨l1, l2, l3⟩ := pl
    have hkp : k < p.size := by omega
    have kb : ∀ x, kp key (bubble p k (k - l)) x = if x = l then kp key p k else if l < x ∧ x ≤ k then kp key p (x - 1) else kp key p x := fun x => by
      have := kp_bubble (key := key) (x := x) hkp (Nat.sub_le k l)
      rw [show k - (k - l) = l by omega] at this
      exact this
    have up' : Up key (bubble p k (k - l)) (k + 1) := fun i j hij hj => by
      rw [kb i, kb j]
      by_cases i1 : i = l
      · rw [if_pos i1, if_neg (by omega), if_pos ⟨by omega, by omega⟩]
        exact l3 _ (by omega) (by omega)
      · rw [if_neg i1]
        by_cases i2 : l < i ∧ i ≤ k
        · rw [if_pos i2, if_neg (by omega), if_pos ⟨by omega, by omega⟩]
          exact up _ _ (by omega) (by omega)
        · rw [if_neg i2]
          by_cases j1 : j = l
          · rw [if_pos j1]
            exact l2 _ (by omega)
          · rw [if_neg j1]
            by_cases j2 : l < j ∧ j ≤ k
            · rw [if_pos j2]
              have a1 := l2 i (by omega)
              have a2 := l3 (j - 1) (by omega) (by omega)
              omega
            · rw [if_neg j2]
              exact up _ _ (by omega) (by omega)
    have ap' : Apart key (bubble p k (k - l)) n := fun i j hi hj z => by
      rw [kb i, kb j] at z
      by_cases i1 : i = l
      · rw [if_pos i1] at z
        by_cases j1 : j = l
        · omega
        · rw [if_neg j1] at z
          by_cases j2 : l < j ∧ j ≤ k
          · rw [if_pos j2] at z; have := ap _ _ (by omega) (by omega) z; omega
          · rw [if_neg j2] at z; have := ap _ _ (by omega) (by omega) z; omega
      · rw [if_neg i1] at z
        by_cases i2 : l < i ∧ i ≤ k
        · rw [if_pos i2] at z
          by_cases j1 : j = l
          · rw [if_pos j1] at z; have := ap _ _ (by omega) (by omega) z; omega
          · rw [if_neg j1] at z
            by_cases j2 : l < j ∧ j ≤ k
            · rw [if_pos j2] at z; have := ap _ _ (by omega) (by omega) z; omega
            · rw [if_neg j2] at z; have := ap _ _ (by omega) (by omega) z; omega
        · rw [if_neg i2] at z
          by_cases j1 : j = l
          · rw [if_pos j1] at z; have := ap _ _ (by omega) (by omega) z; omega
          · rw [if_neg j1] at z
            by_cases j2 : l < j ∧ j ≤ k
            · rw [if_pos j2] at z; have := ap _ _ (by omega) (by omega) z; omega
            · rw [if_neg j2] at z; exact ap _ _ (by omega) (by omega) z
    have ih := bin_ok f (bubble p k (k - l)) (k + 1) (by rw [bubble_size]; exact hs) (by omega) ap' up'
    exact ⟨ih.1.trans (bubble_perm _ _ _), ih.2⟩
theorem sort_ok {n : Nat} (h1 : 1 ≤ n) (inj : ∀ i j, i < n → j < n → key i = key j → i = j) :
    (run (lt key) (kas_sort n)).Perm (List.toArray (List.range n)) ∧ Up key (run (lt key) (kas_sort n)) n := by
  have g : ∀ i, i < n → (List.toArray (List.range n)).getD i 0 = i := fun i hi => by
    rw [Array.getD_eq_getD_getElem?]; simp [hi]
  have ap : Apart key (List.toArray (List.range n)) n := fun i j hi hj z => by
    unfold kp at z
    rw [g i hi, g j hj] at z
    exact inj i j hi hj z
  obtain ⟨m, p', e1, m1, m2, pp, up⟩ := count_ok (key := key) h1 (by simp) ap
  have e : run (lt key) (kas_sort n) = run (lt key) (if m < n then kas_bin (n - max m 1) p' (max m 1) else KasT.ret p') := by
    show run (lt key) ((kas_count n (List.toArray (List.range n))).bind _) = _
    rw [run_bind, e1]
  rw [e]
  by_cases c : m < n
  · rw [if_pos c, show max m 1 = m by omega]
    have hsz : p'.size = n := by rw [pp.size_eq]; simp
    have ap' : Apart key p' n := fun i j hi hj z => by
      have gi : p'.getD i 0 = p'[i]'(by omega) := by rw [Array.getD_eq_getD_getElem?]; simp [hsz, hi]
      have gj : p'.getD j 0 = p'[j]'(by omega) := by rw [Array.getD_eq_getD_getElem?]; simp [hsz, hj]
      have mi : p'[i]'(by omega) ∈ List.toArray (List.range n) := pp.mem_iff.mp (Array.getElem_mem _)
      have mj : p'[j]'(by omega) ∈ List.toArray (List.range n) := pp.mem_iff.mp (Array.getElem_mem _)
      have li : p'[i]'(by omega) < n := by simpa using mi
      have lj : p'[j]'(by omega) < n := by simpa using mj
      unfold kp at z
      rw [gi, gj] at z
      have q := inj _ _ li lj z
      have nd : p'.toList.Nodup := by
        have : (List.range n).Nodup := List.nodup_range
        exact (pp.toList.nodup_iff).mpr (by simpa using this)
      have hi' : i < p'.toList.length := by simpa [hsz] using hi
      have hj' : j < p'.toList.length := by simpa [hsz] using hj
      exact (List.getElem_inj nd (h₀ := hi') (h₁ := hj')).mp (by simpa using q)
    have b := bin_ok (key := key) (n := n) (n - m) p' m hsz (by omega) ap' up
    exact ⟨b.1.trans pp, b.2⟩
  · rw [if_neg c]
    have : m = n := by omega
    subst this
    exact ⟨pp, up⟩
end
end Srt
set_option Elab.async false
set_option linter.all false
set_option maxRecDepth 100000
set_option maxHeartbeats 4000000
namespace Srt
open PySem PySem.W PyProof.Rows
def Safe {α : Type} (n : Nat) : KasT α → (α → Prop) → Prop
  | .ret a, Q => Q a
  | .ask i j k, Q => i < n ∧ j < n ∧ ∀ b, Safe n (k b) Q
theorem Safe.bind {α β : Type} {n : Nat} {f : α → KasT β} {Q : α → Prop} {R : β → Prop} : ∀ {t : KasT α}, Safe n t Q → (∀ a, Q a → Safe n (f a) R) → Safe n (t.bind f) R
  | .ret a, h, k => k a h
  | .ask i j g, h, k => ⟨h.1, h.2.1, fun b => Safe.bind (h.2.2 b) k⟩
theorem wp_safe {α : Type} {n : Nat} {cmp : Nat → Nat → (Bool → Shared → Prop) → Shared → Prop} {lt : Nat → Nat → Bool} {s : Shared} {R : α → Prop} (h : ∀ i j (C : Bool → Shared → Prop), i < n → j < n → C (lt i j) s → cmp i j C s) : ∀ (t : KasT α) (Q : α → Shared → Prop), Safe n t R → Q (run lt t) s → t.kasWp cmp Q s
  | .ret _, _, _, q => q
  | .ask i j k, Q, z, q => h i j _ z.1 z.2.1 (wp_safe h (k (lt i j)) Q (z.2.2 _) q)
def Ent (n : Nat) (p : Array Nat) : Prop := ∀ x, p.getD x 0 < n
theorem Ent.of_perm {n : Nat} {p q : Array Nat} (hn : 0 < n) (h : q.Perm p) (e : Ent n p) : Ent n q := fun x => by
  rw [Array.getD_eq_getD_getElem?]
  by_cases hx : x < q.size
  · have m : q[x] ∈ p := h.mem_iff.mp (Array.getElem_mem hx)
    obtain ⟨i, hi, ei⟩ := Array.mem_iff_getElem.mp m
    have := e i
    rw [Array.getD_eq_getD_getElem?] at this
    simp only [Array.getElem?_eq_getElem hi, Option.getD_some] at this
    simp only [Array.getElem?_eq_getElem hx, Option.getD_some]
    rw [← ei]; exact this
  · simp [hx, hn]
theorem safe_asc {n : Nat} {p : Array Nat} (e : Ent n p) : ∀ (f m : Nat), Safe n (kas_asc p f m) (fun _ => True)
  | 0, _ => trivial
  | f + 1, m => ⟨e _, e _, fun b => by
    cases b with
    | true => exact trivial
    | false => exact safe_asc e f (m + 1)⟩
theorem safe_desc {n : Nat} (hn : 0 < n) : ∀ (f : Nat) (p : Array Nat) (m q : Nat), Ent n p → Safe n (kas_desc f p m q) (fun r => Ent n r.1)
  | 0, p, m, q, e => e
  | f + 1, p, m, q, e => ⟨e _, e _, fun b => by
    cases b with
    | true =>
      show Safe n (if q > 0 then _ else _) _
      split
      · exact safe_desc hn f _ _ _ (Ent.of_perm hn (mirror_perm _ _ _ _) e)
      · exact safe_desc hn f _ _ _ e
    | false => exact ⟨e _, e _, fun d => by
        cases d with
        | true => exact e
        | false => exact safe_desc hn f _ _ _ e⟩⟩
theorem safe_tail3 {n : Nat} (hn : 0 < n) {p : Array Nat} (e : Ent n p) (a b : Nat) : Safe n (kas_tail3 a b p) (fun r => Ent n r.2) :=
  Safe.bind (safe_asc (Ent.of_perm hn (mirror_perm _ _ _ _) e) _ _) fun _ _ => Ent.of_perm hn (mirror_perm _ _ _ _) e
theorem safe_descPart {n : Nat} (hn : 0 < n) {p : Array Nat} (e : Ent n p) (a b : Nat) : Safe n (kas_descPart a b p) (fun r => Ent n r.2) :=
  Safe.bind (safe_desc hn _ _ _ _ e) fun r er => by
    show Safe n (if r.2.2 > 0 then _ else _) _
    split
    · exact safe_tail3 hn (Ent.of_perm hn (mirror_perm _ _ _ _) er) _ _
    · exact safe_tail3 hn er _ _
theorem safe_count {n : Nat} (hn : 0 < n) {p : Array Nat} (e : Ent n p) (b : Nat) : Safe n (kas_count b p) (fun r => Ent n r.2) :=
  Safe.bind (safe_asc e _ _) fun r _ => by
    show Safe n (if (r == b) = true then _ else _) _
    split
    · exact e
    · split
      · exact ⟨e _, e _, fun c => by
          cases c with
          | true => exact e
          | false => exact safe_descPart hn (Ent.of_perm hn (mirror_perm _ _ _ _) e) _ _⟩
      · exact safe_descPart hn e _ _
theorem safe_place {n : Nat} {p : Array Nat} (e : Ent n p) (k : Nat) : ∀ (f l r : Nat), Safe n (kas_place p k f l r) (fun _ => True)
  | 0, _, _ => trivial
  | f + 1, l, r => by
    show Safe n (if l ≥ r then _ else _) _
    split
    · exact trivial
    · exact ⟨e _, e _, fun c => by
        cases c with
        | true => exact safe_place e k f _ _
        | false => exact safe_place e k f _ _⟩
theorem safe_bin {n : Nat} (hn : 0 < n) : ∀ (f : Nat) (p : Array Nat) (k : Nat), Ent n p → Safe n (kas_bin f p k) (fun _ => True)
  | 0, _, _, _ => trivial
  | f + 1, p, k, e => Safe.bind (safe_place e k _ _ _) fun l _ => safe_bin hn f _ _ (Ent.of_perm hn (bubble_perm _ _ _) e)
theorem safe_sort {n : Nat} (hn : 0 < n) : Safe n (kas_sort n) (fun _ => True) := by
  have e : Ent n (List.toArray (List.range n)) := fun x => by
    rw [Array.getD_eq_getD_getElem?]
    by_cases h : x < n
    · simp [h]
    · simp [h, hn]
  exact Safe.bind (safe_count hn e n) fun r er => by
    show Safe n (if r.1 < n then _ else _) _
    split
    · exact safe_bin hn _ _ _ er
    · exact trivial
section
variable {prog : Program} {w : World} {A : Around} {E : Value → Shared → Prop} {s : Shared}
theorem small_tree {a : Addr} {vs : List Value} {n : Nat} {P : PySem.Fin → Shared → Prop} (hoL : s.heap.get? a = some (seqObj "list" vs.toArray n)) (h2 : vs.length < 2)
    (h : P (.done (.ret .none)) { s with heap := sortedHeap s.heap a vs ((pairsOf vs).map (·.2)) }) : wpAny (model prog w) A (Builtin.«list.sort» ⟨[.ref a], []⟩) P E s := by
  have hz : vs.length ≤ sizeLine := by rw [sizeLine_eq]; omega
  have ha : a < s.heap.objs.size := Heap.lt_size hoL
  rw [list_sort_plain]
  refine wpAny_bind (listItems_at hoL rfl (wpAny_bind (listUpdate_at hoL rfl ?_ (by rw [List.size_toArray]; exact hz) (Nat.zero_le _))))
  obtain ⟨e1, ho1⟩ : ∃ e1, (s.heap.update a (Obj.mapSeq fun _ => (#[] : Array Value))).get? a = some (seqObj "list" #[] e1) := ⟨_, get?_update_seq hoL fun _ => #[]⟩
  refine wpAny_bind (seqEpoch_at ho1 rfl (wpAny_bind (wpAny_newTuple (wpAny_bind (wpAny_newList (wpAny_holding ?_) (Nat.zero_le _))) hz)))
  have ho6 : (((s.heap.update a (Obj.mapSeq fun _ => (#[] : Array Value))).push (seqObj "tuple" vs.toArray 0)).push (seqObj "list" #[] 0)).get? a = some (seqObj "list" #[] e1) := by
    rw [Heap.get?_push_ne _ _ _ (by rw [size_push', Heap.size_update]; exact Nat.ne_of_lt (Nat.lt_succ_of_lt ha)), Heap.get?_push_ne _ _ _ (by rw [Heap.size_update]; exact Nat.ne_of_lt ha)]; exact ho1
  show wpAny (model prog w) A _ P E { s with heap := (((s.heap.update a (Obj.mapSeq fun _ => #[])).push (seqObj "tuple" vs.toArray 0)).push (seqObj "list" #[] 0)) }
  dsimp only
  have hs2 : vs.toArray.size < 2 := by rw [List.size_toArray]; exact h2
  rw [if_pos hs2, if_pos hs2]
  refine wpAny_bind (wpAny_pure ?_)
  rw [StateT.run_pure]
  refine wpAny_bind (wpAny_pure ?_)
  dsimp only
  refine wpAny_bind (seqEpoch_at ho6 rfl (wpAny_bind (listUpdate_at ho6 rfl ?_ (Nat.zero_le _) (by rw [Array.size_map]; show (pairsOf vs).size ≤ _; rw [pairsOf_size]; omega))))
  simp only [bne_self_eq_false, Bool.false_eq_true, if_false]
  exact wpAny_pure h
theorem sorted_small {l : Addr} {vs : List Value} {Q : Value → Shared → Prop} (hl : s.heap.IsList l vs.toArray) (h2 : vs.length < 2)
    (h : Q (.ref (s.heap.objs.size + 1)) { s with heap := sortedAll s.heap vs ((pairsOf vs).map (·.2)) }) : wpAny (model prog w) A (call (.builtin "sorted") [.ref l]) Q E s := by
  have hz : vs.length ≤ sizeLine := by rw [sizeLine_eq]; omega
  apply Calls.call_function_entry kind_sorted plain_sorted entry_sorted (args_sorted1 _)
  unfold Builtin.«sorted»
  refine wpAny_bind (m := checkCount "sorted" 1 1 _) (wpAny_pure (wpAny_bind (collect_list hl (wpAny_bind (wpAny_newList ?_ hz)) hz)))
  have e0 : ((s.heap.push (seqObj "list" #[] 0)).update s.heap.objs.size (Obj.mapSeq (· ++ vs.toArray))).objs.size = s.heap.objs.size + 1 := by rw [Heap.size_update, size_push']
  have hoL : (((s.heap.push (seqObj "list" #[] 0)).update s.heap.objs.size (Obj.mapSeq (· ++ vs.toArray))).push (seqObj "list" vs.toArray 0)).get? (s.heap.objs.size + 1) = some (seqObj "list" vs.toArray 0) := by rw [← e0]; exact Heap.get?_push_size _ rfl
  show wpAny _ _ _ _ _ { s with heap := (((s.heap.push (seqObj "list" #[] 0)).update s.heap.objs.size (Obj.mapSeq (· ++ vs.toArray))).push (seqObj "list" vs.toArray 0)) }
  rw [e0]
  refine wpAny_bind (wpAny_holding (wpAny_call_entry slot_list_sort ⟨_, hoL, rfl⟩ entry_list_sort (small_tree hoL h2 ⟨_, rfl, wpAny_pure ⟨_, rfl, h⟩⟩) (args_list_sort _)))
end
end Srt
set_option Elab.async false
set_option linter.all false
set_option maxRecDepth 100000
set_option maxHeartbeats 2000000
namespace L2
open PySem PySem.Spec PyProof.Rows
inductive EqR (K : PySem.W.Frag) (H : Hp) : Nat → V → V → Bool → Prop
  | flat {n : Nat} {x y : V} (fx : flatV x = true) (fy : flatV y = true) : EqR K H n x y (eqV x y)
  | lens {n : Nat} {a b : Addr} {xs ys : List V} (ha : SqL K H a xs) (hb : SqL K H b ys) (hl : xs.length ≠ ys.length) : EqR K H (n + 1) (.ref a) (.ref b) false
  | lst {n : Nat} {a b : Addr} {xs ys : List V} {e : Nat → Bool} (ha : SqL K H a xs) (hb : SqL K H b ys) (hl : xs.length = ys.length) (h : ∀ (j : Nat) x y, xs[j]? = some x → ys[j]? = some y → EqR K H n x y (e j)) : EqR K H (n + 1) (.ref a) (.ref b) ((List.range xs.length).all e)
  | tup {n : Nat} {a b : Addr} {xs ys : List V} {e : Nat → Bool} (ha : SqT K H a xs) (hb : SqT K H b ys) (h : ∀ (j : Nat) x y, xs[j]? = some x → ys[j]? = some y → EqR K H n x y (e j)) :
      EqR K H (n + 1) (.ref a) (.ref b) ((List.range (min xs.length ys.length)).all e && xs.length == ys.length)
theorem eqV_self {x : V} (f : flatV x = true) : eqV x x = true := by
  cases x <;> first | rfl | (simp [eqV]; done) | exact absurd (show false = true from f) Bool.false_ne_true
section
variable {X : Cx} {pins : List (Addr × Obj)} {σ : St} {H : Hp} {s : Shared}
theorem EqR.self (I : Inv X pins σ H s) {n : Nat} {x y : V} {b : Bool} (h : EqR X.K H n x y b) : x = y → b = true := by
  induction h with
  | flat fx fy => intro e; subst e; exact eqV_self fx
  | lens ha hb hl =>
    intro e
    injection e with e; subst e
    exact absurd (by rw [I.list_inj ha hb]) hl
  | @lst n a b xs ys e ha hb hl h ih =>
    intro q
    injection q with q; subst q
    obtain rfl := I.list_inj ha hb
    rw [List.all_eq_true]
    intro j hj
    have hj' : j < xs.length := List.mem_range.mp hj
    exact ih j _ _ (List.getElem?_eq_getElem hj') (List.getElem?_eq_getElem hj') rfl
  | @tup n a b xs ys e ha hb h ih =>
    intro q
    injection q with q; subst q
    obtain rfl := I.tuple_inj ha hb
    rw [Bool.and_eq_true, List.all_eq_true]
    refine ⟨fun j hj => ?_, beq_self_eq_true _⟩
    have hj' : j < xs.length := by have := List.mem_range.mp hj; omega
    exact ih j _ _ (List.getElem?_eq_getElem hj') (List.getElem?_eq_getElem hj') rfl
theorem paired_at {xs : List V} {its : List Value} (r : Vals xs its) {j : Nat} (h : j < its.toArray.size) : ∃ x, xs[j]? = some x ∧ RelV x its.toArray[j] := by
  have hl := r.length
  have h' : j < xs.length := by rw [hl]; simpa using h
  obtain ⟨u, hu, ru⟩ := r.get (List.getElem?_eq_getElem h')
  refine ⟨_, List.getElem?_eq_getElem h', ?_⟩
  have e : its.toArray[j] = u := by
    have : its[j]? = some u := hu
    rw [List.getElem?_eq_getElem (by simpa using h)] at this
    simpa using Option.some.inj this
  rw [e]; exact ru
theorem EqR.at (I : Inv X pins σ H s) {n : Nat} {x y : V} {b : Bool} (h : EqR X.K H n x y b) : ∀ {A : Around} {u v : Value}, RelV x u → RelV y v → A.units + n < cLine → SeqAt.EqAt A s u v b := by
  induction h with
  | flat fx fy => intro A u v rx ry hu; exact eqAt_V rx ry fx fy
  | @lens n a b xs ys ha hb hl =>
    intro A u v rx ry hu
    cases rx; cases ry
    obtain ⟨its, r, pl, _⟩ := I.list ha
    obtain ⟨its2, r2, pl2, _⟩ := I.list hb
    have ne : a ≠ b := fun e => by subst e; exact hl (by rw [I.list_inj ha hb])
    refine .of_refs ne (.lists_lengths pl.isList pl2.isList ?_ (by omega))
    rw [List.size_toArray, List.size_toArray, ← r.length, ← r2.length]
    exact bne_iff_ne.mpr hl
  | @lst n a b xs ys e ha hb hl h ih =>
    intro A u v rx ry hu
    by_cases q : a = b
    · have := (EqR.lst ha hb hl h).self I (by rw [q])
      cases rx; cases ry
      rw [this]
      subst q
      exact SeqAt.EqAt.same _
    · cases rx; cases ry
      obtain ⟨its, r, pl, _⟩ := I.list ha
      obtain ⟨its2, r2, pl2, _⟩ := I.list hb
      have e1 : its.toArray.size = xs.length := by rw [List.size_toArray, r.length]
      rw [← e1]
      refine .of_refs q (.lists pl.isList pl2.isList (by rw [List.size_toArray, List.size_toArray, ← r.length, ← r2.length]; exact hl) (by omega) fun j h1 h2 => ?_)
      obtain ⟨x, hx, rx⟩ := paired_at r h1
      obtain ⟨y, hy, ry⟩ := paired_at r2 h2
      exact ih j x y hx hy rx ry (by show A.units + 1 + n < cLine; omega)
  | @tup n a b xs ys e ha hb h ih =>
    intro A u v rx ry hu
    by_cases q : a = b
    · have := (EqR.tup ha hb h).self I (by rw [q])
      cases rx; cases ry
      rw [this]
      subst q
      exact SeqAt.EqAt.same _
    · cases rx; cases ry
      obtain ⟨its, r, pl, _⟩ := I.tuple ha
      obtain ⟨its2, r2, pl2, _⟩ := I.tuple hb
      have e1 : its.toArray.size = xs.length := by rw [List.size_toArray, r.length]
      have e2 : its2.toArray.size = ys.length := by rw [List.size_toArray, r2.length]
      rw [← e1, ← e2]
      refine .of_refs q (.tuples pl pl2 (by omega) fun j h1 h2 => ?_)
      obtain ⟨x, hx, rx⟩ := paired_at r h1
      obtain ⟨y, hy, ry⟩ := paired_at r2 h2
      exact ih j x y hx hy rx ry (by show A.units + 1 + n < cLine; omega)
def rEqL (K : PySem.W.Frag) (neg : Bool) : R2 := fun x y H Q => ∃ n a b xs ys, n ≤ 60 ∧ x = .ref a ∧ y = .ref b ∧ SqL K H a xs ∧ SqL K H b ys ∧
  ((xs.length ≠ ys.length ∧ Q (.bl neg) H) ∨ ∃ e : Nat → Bool, xs.length = ys.length ∧ (∀ (j : Nat) x y, xs[j]? = some x → ys[j]? = some y → EqR K H n x y (e j)) ∧ Q (.bl (if neg then !(List.range xs.length).all e else (List.range xs.length).all e)) H)
theorem op_eqL (hu : X.A.units + 64 < cLine) : OpR X (compareOp .Eq) (rEqL X.K false) := by
  intro pins s σ H x y v u Q I rx ry h
  obtain ⟨n, a, b, xs, ys, hn, rfl, rfl, ha, hb, h⟩ := h
  cases rx; cases ry
  obtain ⟨its, r, pl, _⟩ := I.list ha
  obtain ⟨its2, r2, pl2, _⟩ := I.list hb
  have e1 : its.toArray.size = xs.length := by rw [List.size_toArray, r.length]
  have e2 : its2.toArray.size = ys.length := by rw [List.size_toArray, r2.length]
  rcases h with ⟨hl, q⟩ | ⟨e, hl, he, q⟩
  · exact SeqAt.eq_list_lengthsAt pl.isList pl2.isList (by rw [e1, e2]; exact bne_iff_ne.mpr hl) (by omega) ⟨.bl false, H, I, rfl, q⟩
  · refine SeqAt.eq_listAt (e := e) pl.isList pl2.isList (by rw [e1, e2]; exact hl) (by omega) (fun j h1 h2 => ?_) ?_
    · obtain ⟨x, hx, rx⟩ := paired_at r h1
      obtain ⟨y, hy, ry⟩ := paired_at r2 h2
      exact (he j x y hx hy).at I rx ry (by show X.A.units + 1 + n < cLine; omega)
    · rw [e1]; exact ⟨.bl _, H, I, rfl, q⟩
theorem op_neL (hu : X.A.units + 64 < cLine) : OpR X (compareOp .NotEq) (rEqL X.K true) := by
  intro pins s σ H x y v u Q I rx ry h
  obtain ⟨n, a, b, xs, ys, hn, rfl, rfl, ha, hb, h⟩ := h
  cases rx; cases ry
  obtain ⟨its, r, pl, _⟩ := I.list ha
  obtain ⟨its2, r2, pl2, _⟩ := I.list hb
  have e1 : its.toArray.size = xs.length := by rw [List.size_toArray, r.length]
  have e2 : its2.toArray.size = ys.length := by rw [List.size_toArray, r2.length]
  rcases h with ⟨hl, q⟩ | ⟨e, hl, he, q⟩
  · exact SeqAt.RcNeAt.lists_lengths pl.isList pl2.isList (by rw [e1, e2]; exact bne_iff_ne.mpr hl) (by omega) _ _ _ _ ⟨.bl true, H, I, rfl, q⟩
  · refine SeqAt.RcNeAt.lists (e := e) pl.isList pl2.isList (by rw [e1, e2]; exact hl) (by omega) (fun j h1 h2 => ?_) _ _ _ _ ?_
    · obtain ⟨x, hx, rx⟩ := paired_at r h1
      obtain ⟨y, hy, ry⟩ := paired_at r2 h2
      exact (he j x y hx hy).at I rx ry (by show X.A.units + 1 + n < cLine; omega)
    · rw [e1]; exact ⟨.bl _, H, I, rfl, q⟩
end
abbrev PairIn (H : Hp) (p : Int × Int) (v : V) : Prop := ∃ a, v = .ref a ∧ H a = some (.tup [.int p.1, .int p.2])
abbrev PairsIn (H : Hp) : List (Int × Int) → List V → Prop := Paired (PairIn H)
def pkey (p : Int × Int) : Int := p.1 * 1000 + p.2
def Fine (ps : List (Int × Int)) : Prop := (∀ p ∈ ps, 0 ≤ p.2 ∧ p.2 < 1000) ∧ ps.Nodup
theorem pkey_lt {p q : Int × Int} (h1 : 0 ≤ p.2 ∧ p.2 < 1000) (h2 : 0 ≤ q.2 ∧ q.2 < 1000) : (if p.1 = q.1 then decide (p.2 < q.2) else decide (p.1 < q.1)) = decide (pkey p < pkey q) := by
  unfold pkey
  split
  · rename_i e
    rw [e]
    by_cases c : p.2 < q.2
    · rw [decide_eq_true c, decide_eq_true (by omega)]
    · rw [decide_eq_false c, decide_eq_false (by omega)]
  · rename_i e
    by_cases c : p.1 < q.1
    · rw [decide_eq_true c, decide_eq_true (by omega)]
    · rw [decide_eq_false c, decide_eq_false (by omega)]
theorem pkey_inj {p q : Int × Int} (h1 : 0 ≤ p.2 ∧ p.2 < 1000) (h2 : 0 ≤ q.2 ∧ q.2 < 1000) (e : pkey p = pkey q) : p = q := by
  unfold pkey at e
  have a : p.1 = q.1 := by omega
  have b : p.2 = q.2 := by omega
  exact Prod.ext a b
theorem Inv.adopt2 {X : Cx} {pins : List (Addr × Obj)} {σ : St} {H : Hp} {s : Shared} {a : Addr} {o : HO} (I : Inv X pins σ H s) (hn : H a = none) (hx : ∀ u, X.s₀.heap.get? a ≠ some u) (hL : a ≠ X.env.locals) (hC : ∀ x c, X.env.cells.lookup x = some c → c ≠ a) (hp : ∀ p ∈ X.pn ++ pins, p.1 ≠ a)
    (new : ObjOk X.prog X.w (upd H a o) s.heap a o) : Inv X pins σ (upd H a o) s := by
  have ne : ∀ b u, X.s₀.heap.get? b = some u → b ≠ a := fun b u e z => hx u (by rw [← z]; exact e)
  refine ⟨I.ok, I.os, I.bare, ⟨I.base.keep, I.base.slot, fun b u e n hx => ?_, I.base.there, fun b xs e => ?_, fun b u xs e => ?_, fun b ps e => ?_⟩, I.loc, I.cell, ?_, fun x c e => ?_, fun p hq => ?_, fun b u e => ?_, I.len⟩
  · rw [upd_ne (ne b u e)]; exact I.base.free b u e n hx
  · have q := I.base.tups b xs e
    rw [upd_ne (ne_of_none q hn)]; exact q
  · have q := I.base.frzs b u xs e
    rw [upd_ne (ne_of_none q hn)]; exact q
  · obtain ⟨m, q⟩ := I.base.tbls b ps e
    exact ⟨m, by rw [upd_ne (ne_of_none q hn)]; exact q⟩
  · rw [upd_ne (Ne.symm hL)]; exact I.free
  · rw [upd_ne (hC x c e)]; exact I.freeC x c e
  · obtain ⟨h1, h2, h3⟩ := I.pin p hq
    exact ⟨h1, by rw [upd_ne (hp p hq)]; exact h2, h3⟩
  · by_cases hb : b = a
    · subst hb; rw [upd_same] at e; cases e; exact new
    · rw [upd_ne hb] at e
      exact (I.hok b u e).stay (fun c v _ q => q) (fun c q => by rw [upd_ne (ne_of_none q hn)]; exact q) fun c xs q => by rw [upd_ne (ne_of_none q hn)]; exact q
end L2
set_option Elab.async false
set_option linter.all false
set_option maxRecDepth 100000
set_option maxHeartbeats 2000000
namespace L2
open PySem PySem.Spec PyProof.Rows
theorem ObjOk.get {P : Program} {w : World} {H : Hp} {h : Heap} {a : Addr} {o : HO} (x : ObjOk P w H h a o) : ∃ u, h.get? a = some u := by
  cases o with
  | lst xs => obtain ⟨_, _, _, _, e⟩ := x; exact ⟨_, e⟩
  | tup xs => obtain ⟨_, _, _, o, e, _⟩ := x; exact ⟨_, e⟩
  | dK kvs => obtain ⟨_, _, _, _, o, _, _, e, _⟩ := x; exact ⟨_, e⟩
  | dT kvs => obtain ⟨_, _, _, _, o, _, _, e, _⟩ := x; exact ⟨_, e⟩
  | set S n => obtain ⟨o, _, _, _, e, _⟩ := x; exact ⟨_, e⟩
  | ins C dx fs => obtain ⟨_, _, _, e, _⟩ := x; exact ⟨_, e⟩
  | own y => obtain ⟨_, e⟩ := x; exact ⟨_, e⟩
  | xd fs => obtain ⟨_, ⟨_, _, _, e, _⟩, _⟩ := x; exact ⟨_, e⟩
  | rng lo hi => obtain ⟨_, _, _, e⟩ := x; exact ⟨_, e⟩
  | frz ob u => obtain ⟨e, _⟩ := x; exact ⟨_, e⟩
  | tbl ps => exact ⟨_, (show h.get? a = some _ from x)⟩
  | met f y => exact ⟨_, (show h.get? a = some _ from x)⟩
  | ext φ => obtain ⟨_, ⟨_, e⟩, _⟩ := x; exact ⟨_, e⟩
theorem getD_map_range {α : Type} (xs : List α) (d : α) : (List.range xs.length).map (fun i => xs.getD i d) = xs := by
  apply List.ext_getElem
  · simp
  · intro i h1 h2
    simp [h2]
theorem vals_getD {vs : List V} {its : List Value} (r : Vals vs its) {i : Nat} (h : i < vs.length) : RelV (vs.getD i .non) (its.getD i .none) := by
  obtain ⟨u, hu, ru⟩ := r.get (List.getElem?_eq_getElem h)
  have e1 : vs.getD i .non = vs[i] := by simp [h]
  have e2 : its.getD i .none = u := by rw [List.getD_eq_getElem?_getD, hu]; rfl
  rw [e1, e2]; exact ru
theorem pairs_getD {H : Hp} : ∀ {ps : List (Int × Int)} {vs : List V} {i : Nat}, PairsIn H ps vs → i < vs.length → PairIn H (ps.getD i (0, 0)) (vs.getD i .non)
  | _, _, _, .nil, h => absurd h (Nat.not_lt_zero _)
  | _, _, 0, .cons a _, _ => by simpa using a
  | _, _, i + 1, .cons _ b, h => by simpa using pairs_getD (i := i) b (by simpa using h)
theorem paired_map {α β : Type} {F : α → β → Prop} {f : Nat → α} {g : Nat → β} : ∀ {l : List Nat}, (∀ i ∈ l, F (f i) (g i)) → Paired F (l.map f) (l.map g)
  | [], _ => .nil
  | i :: l, h => .cons (h i List.mem_cons_self) (paired_map fun j hj => h j (List.mem_cons_of_mem _ hj))
section
variable {X : Cx}
theorem firsts_of {H : Hp} {h' : Heap} (tk : ∀ a (p : Int × Int), H a = some (.tup [.int p.1, .int p.2]) → ∃ o k t1 t2, h'.get? a = some o ∧ o.cls = .type "tuple" ∧ o.data = .seq #[.int p.1 t1, .int p.2 t2] k) :
    ∀ {ps : List (Int × Int)} {vs : List V} {its : List Value}, PairsIn H ps vs → Vals vs its → ∃ fs, PySem.W.KatTups h' its fs ∧ fs.length = its.length ∧ ∀ v ∈ fs, ∃ i t, v = Value.int i t
  | _, _, _, .nil, .nil => ⟨[], .nil, rfl, (fun _ h => nomatch h)⟩
  | _, _, _, .cons a b, .cons r t => by
    obtain ⟨fs, h1, h2, h3⟩ := firsts_of tk b t
    obtain ⟨ad, e, ha⟩ := a
    subst e
    cases r
    obtain ⟨o, k, t1, t2, g1, g2, g3⟩ := tk ad _ ha
    refine ⟨.int _ t1 :: fs, .cons g1 g2 g3 rfl h1, congrArg (· + 1) h2, fun v hv => ?_⟩
    rcases List.mem_cons.mp hv with rfl | hv
    · exact ⟨_, _, rfl⟩
    · exact h3 v hv
theorem pair_lt {prog : Program} {w : World} {A : Around} {s : Shared} {a b : Addr} {oa ob : Obj} {ka kb : Nat} {p q : Int × Int} {t1 t2 u1 u2 : Tok} {C : Bool → Shared → Prop} (h1 : s.heap.get? a = some oa) (d1 : oa.data = .seq #[.int p.1 t1, .int p.2 t2] ka)
    (h2 : s.heap.get? b = some ob) (d2 : ob.data = .seq #[.int q.1 u1, .int q.2 u2] kb) (hp : 0 ≤ p.2 ∧ p.2 < 1000) (hq : 0 ≤ q.2 ∧ q.2 < 1000) (h : C (decide (pkey p < pkey q)) s) :
    wpAny (model prog w) A (keyLt' (tuples' true) (.ref a) (.ref b)) C (fun _ _ => False) s := by
  rw [← pkey_lt hp hq] at h
  refine PySem.W.kat_lt h1 d1 h2 d2 ?_
  show PySem.W.KatLex prog w A true (decide (2 < 2)) C [(.int p.1 t1, .int q.1 u1), (.int p.2 t2, .int q.2 u2)] 0 s
  refine PySem.W.kat_cons (SeqAt.EqAt.int_int p.1 t1 q.1 u1 prog w _ _ ?_)
  by_cases c : p.1 = q.1
  · rw [if_pos c] at h
    have e : (p.1 == q.1) = true := beq_iff_eq.mpr c
    rw [e]
    refine PySem.W.kat_yes (PySem.W.kat_cons (SeqAt.EqAt.int_int p.2 t2 q.2 u2 prog w _ _ ?_))
    by_cases c2 : p.2 = q.2
    · have e2 : (p.2 == q.2) = true := beq_iff_eq.mpr c2
      rw [e2]
      refine PySem.W.kat_yes (PySem.W.kat_nil ?_)
      rw [decide_eq_false (show ¬ p.2 < q.2 by omega)] at h
      exact h
    · have e2 : (p.2 == q.2) = false := beq_eq_false_iff_ne.mpr c2
      rw [e2]
      refine PySem.W.kat_no (PySem.W.kat_one _ _ (lt_int ?_))
      exact h
  · rw [if_neg c] at h
    have e : (p.1 == q.1) = false := beq_eq_false_iff_ne.mpr c
    rw [e]
    refine PySem.W.kat_no ?_
    exact oneLt_int h
theorem call_sortedP (hx : X.ex = []) : CallR X (.builtin "sorted") (fun xs H Q => ∃ p vs ps, xs = [.ref p] ∧ H p = some (.lst vs) ∧ PairsIn H ps vs ∧ ps.length < 64 ∧ Fine ps ∧
    ∀ q qs vs', H q = none → qs.Perm ps → (qs.map pkey).Pairwise (· < ·) → PairsIn H qs vs' → Q (.ref q) (upd H q (.lst vs'))) := by
  intro pins s σ H xs us Q I r h
  obtain ⟨p, vs, ps, rfl, hH, hp, h64, fine, q⟩ := h
  obtain ⟨u, rfl, ru⟩ := vals1 r
  cases ru
  obtain ⟨z, its, n, rv, hl, e⟩ := I.lstM hH
  have hlen : ps.length = vs.length := Paired.length hp
  by_cases h2 : its.length < 2
  · refine Srt.sorted_small (vs := its) ⟨_, e, rfl, _, rfl⟩ h2 ?_
    have eo : (pairsOf its).map (·.2) = its.toArray := by
      match its, h2 with
      | [], _ => simp [pairsOf]
      | [v], _ => simp [pairsOf]
    rw [eo]
    obtain ⟨c, hc⟩ := sortedAll_at s.heap its its.toArray
    have I1 := I.laid (a := s.heap.objs.size + 1) (o := .lst vs) (t' := s.toks) (fun b o q => sortedAll_old (vs := its) (out := its.toArray) q) (Nat.le_succ _) ⟨z, its, c, rv, hc⟩
    refine ⟨.ref _, _, I1, rfl, q _ ps vs (I.hok.fresh (Nat.le_succ _)) (List.Perm.refl _) ?_ hp⟩
    match ps, hlen with
    | [], _ => exact List.Pairwise.nil
    | [a], _ => exact List.pairwise_singleton _ _
    | a :: b :: r, hlen => simp at hlen; omega
  · obtain ⟨m, F⟩ := I.fr
    refine PySem.W.kat_sorted F (news := allNews X.base s.heap X.env.locals) news_all ⟨_, e, rfl, _, rfl⟩ (by omega) (by omega) ?_
    intro D e1 h' F' N' hD
    have nD := N' (D, _) List.mem_cons_self
    have keptG : ∀ {g : Heap} {o1 : Obj}, Fr X.base X.env.locals g m → News X.base X.env.locals g ((D, o1) :: allNews X.base s.heap X.env.locals) → ∀ b o, b ≠ X.env.locals → s.heap.get? b = some o → g.get? b = some o := fun {g o1} Fg Ng b o hb q => by
      cases w : X.base.get? b with
      | some u =>
        have := F.keep b u w
        rw [q] at this; cases this
        exact Fg.keep b _ w
      | none => exact (Ng (b, o) (List.mem_cons_of_mem _ (mem_allNews hb w q))).1
    have fresh : s.heap.get? D = none := by
      cases g : s.heap.get? D with
      | none => rfl
      | some o => exact absurd (hD (D, o) (mem_allNews nD.2.1 nD.2.2 g)) (Nat.lt_irrefl _)
    have neL : ∀ b o, H b = some o → b ≠ X.env.locals := fun b o e z => by rw [z, I.free] at e; cases e
    have tk : ∀ a (p : Int × Int), H a = some (.tup [.int p.1, .int p.2]) → ∃ o k t1 t2, h'.get? a = some o ∧ o.cls = .type "tuple" ∧ o.data = .seq #[.int p.1 t1, .int p.2 t2] k := fun a p ha => by
      obtain ⟨_, its', r', o, g1, g2, k, g3⟩ := I.hok a _ ha
      obtain ⟨u1, u2, rfl, ⟨t1, rfl⟩, ⟨t2, rfl⟩⟩ := vals2 r'
      exact ⟨o, k, t1, t2, keptG F' N' a o (neL a _ ha) g1, g2, g3⟩
    obtain ⟨fs, t1, t2, t3⟩ := firsts_of tk hp rv
    refine PySem.W.kat_kind (s := { s with heap := h' }) (T := .type "int") t1 (by omega) (fun v hv => by obtain ⟨i, t, rfl⟩ := t3 v hv; exact PySem.W.Looks.of_pure rfl) (by decide) ?_
    have nv : its.length = vs.length := hl.symm
    have kin : ∀ i, i < its.length → 0 ≤ (ps.getD i (0, 0)).2 ∧ (ps.getD i (0, 0)).2 < 1000 := fun i hi => by
      have hi' : i < ps.length := by omega
      have e : ps.getD i (0, 0) = ps[i] := by simp [hi']
      rw [e]; exact fine.1 _ (List.getElem_mem hi')
    refine Srt.wp_safe (n := its.length) (lt := Srt.lt fun i => pkey (ps.getD i (0, 0))) (fun i j C hi hj hC => ?_) _ _ (Srt.safe_sort (by omega)) ?_
    · obtain ⟨a1, ea1, ha1⟩ := pairs_getD (i := i) hp (by omega)
      obtain ⟨a2, ea2, ha2⟩ := pairs_getD (i := j) hp (by omega)
      have r1 := vals_getD rv (i := i) (by omega)
      have r2 := vals_getD rv (i := j) (by omega)
      rw [ea1] at r1; rw [ea2] at r2
      obtain ⟨o1, k1, x1, y1, g1, _, d1⟩ := tk a1 _ ha1
      obtain ⟨o2, k2, x2, y2, g2, _, d2⟩ := tk a2 _ ha2
      show wpAny _ _ (keyLt' (tuples' true) (its.getD i .none) (its.getD j .none)) C (fun _ _ => False) { s with heap := h' }
      rw [show its.getD i .none = .ref a1 from r1, show its.getD j .none = .ref a2 from r2]
      exact pair_lt (s := { s with heap := h' }) g1 d1 g2 d2 (kin i hi) (kin j hj) hC
    · have so := Srt.sort_ok (n := its.length) (key := fun i => pkey (ps.getD i (0, 0))) (by omega) fun i j hi hj ek => by
        have pe := pkey_inj (kin i hi) (kin j hj) ek
        have hi' : i < ps.length := by omega
        have hj' : j < ps.length := by omega
        have e1 : ps.getD i (0, 0) = ps[i] := by simp [hi']
        have e2 : ps.getD j (0, 0) = ps[j] := by simp [hj']
        rw [e1, e2] at pe
        exact (List.getElem_inj fine.2).mp pe
      generalize Srt.run (Srt.lt fun i => pkey (ps.getD i (0, 0))) (PySem.W.kas_sort its.length) = pm at so
      obtain ⟨so1, so2⟩ := so
      have so1' : pm.toList.Perm (List.range its.length) := by simpa using so1.toList
      have ml : pm.toList.length = its.length := by rw [so1'.length_eq]; simp
      have mem : ∀ i ∈ pm.toList, i < its.length := fun i hi => List.mem_range.mp (so1'.mem_iff.mp hi)
      refine PySem.W.KasFin.intro F' N' (PySem.W.UpdF.head fun p hp => Nat.ne_of_lt (hD p hp)) fun h'' c F'' N'' => ?_
      have kp := keptG F'' N''
      have gD := (N'' (D, _) List.mem_cons_self).1
      have I1 : Inv X pins σ H { s with heap := h'' } := by
        refine I.step (g' := s.gens) (d' := s.drawn) (t' := s.toks) (ch := []) (fun _ z => nomatch z) (fun b o hb _ _ e _ => kp b o hb e) (fun b o hb _ _ e _ => ⟨o.slots, kp b o hb e⟩) (fun _ _ _ _ n => n) (fun b o _ e => ?_) (fun _ _ e => e) (fun _ _ _ e => e) (fun b ps e => ⟨#[], by rw [e]; simp⟩) (fun m' hm => ?_) (fun b u e => ?_) I.bare
        · by_cases hb : b = X.env.locals
          · obtain ⟨o', _, _, g, _⟩ := F''.ns
            exact ⟨o', by rw [hb]; exact g⟩
          · exact ⟨o, kp b o hb e⟩
        · have : m' = m := by
            obtain ⟨o1, es1, ep1, g1, d1, _, f1⟩ := hm
            obtain ⟨o2, es2, ep2, g2, d2, _, f2⟩ := F.ns
            rw [g1] at g2; cases g2
            rw [d1] at d2; cases d2
            funext x
            rw [← f1 x, ← f2 x]
          rw [this]; exact F''.ns
        · refine (I.hok b u e).stay (fun c' v hc q => kp c' v ?_ q) (fun _ q => q) fun _ _ q => q
          rcases hc with rfl | hc
          · exact neL _ _ e
          · exact neL _ _ hc
      have hnD : H D = none := by
        cases g : H D with
        | none => rfl
        | some o =>
          obtain ⟨u, hu⟩ := (I.hok D o g).get
          rw [fresh] at hu; cases hu
      have vv : Vals (pm.toList.map fun i => vs.getD i .non) (pm.toList.map fun i => its.getD i .none) := paired_map fun i hi => vals_getD rv (by have := mem i hi; omega)
      have I2 := I1.adopt2 (o := .lst (pm.toList.map fun i => vs.getD i .non)) hnD (fun u hu => by
          obtain ⟨o', q⟩ := I.base.there D u hu (by rw [hx]; simp)
          rw [fresh] at q; cases q) nD.2.1 (fun x c e z => by
          obtain ⟨v, o, ho, _⟩ := I.cell x c e
          rw [z, fresh] at ho; cases ho) (fun p hp z => by
          have := (I.pin p hp).1
          rw [z, fresh] at this; cases this) ⟨(by rw [List.length_map, ml]; omega), _, c, vv, gD⟩
      refine ⟨.ref D, _, I2, rfl, q D (pm.toList.map fun i => ps.getD i (0, 0)) _ hnD ?_ ?_ (paired_map fun i hi => pairs_getD hp (by have := mem i hi; omega))⟩
      · have := so1'.map fun i => ps.getD i (0, 0)
        rw [show its.length = ps.length by omega, getD_map_range] at this
        exact this
      · rw [List.map_map, List.pairwise_iff_getElem]
        intro i j hi hj hij
        rw [List.length_map] at hi hj
        have := so2 i j hij (by omega)
        unfold Srt.kp at this
        have gi : pm.getD i 0 = pm.toList[i] := by rw [Array.getD_eq_getD_getElem?]; simp at hi; simp [hi]
        have gj : pm.getD j 0 = pm.toList[j] := by rw [Array.getD_eq_getD_getElem?]; simp at hj; simp [hj]
        rw [gi, gj] at this
        simpa using this
end
end L2
set_option Elab.async false
set_option linter.all false
set_option maxRecDepth 100000
set_option maxHeartbeats 2000000
namespace L2
open PySem PySem.Spec PyProof.Rows
theorem iteDT {c A B : Prop} [Decidable c] (hc : c) (h : A) : if decide c = true then A else B := by
  rw [if_pos (decide_eq_true hc)]; exact h
theorem iteDF {c A B : Prop} [Decidable c] (hc : ¬ c) (h : B) : if decide c = true then A else B := by
  rw [if_neg (fun e => hc (of_decide_eq_true e))]; exact h
section
variable {X : Cx} {K : PySem.W.Frag}
theorem call_isinstK {n : String} (hK : X.K = K) : CallR X (.builtin "isinstance") (fun xs H Q => ∃ x t b, xs = [x, .ty n] ∧ TyOf K H x t ∧ PySem.W.kitOne K t (.type n) = some b ∧ Q (.bl b) H) := by subst hK; exact call_isinst
theorem ix_listK (hK : X.K = K) : IxR X (rIxL K) := by subst hK; exact ix_list
end
def Nxt (n i : Nat) (P : Prop) : Prop := ∃ m', m' < n - i ∧ m' = n - (i + 1) ∧ i + 1 ≤ n ∧ P
theorem lc_list {K : PySem.W.Frag} {a : Addr} {xs : List V} {cap : List (Option Nat)} {g : TG} {tt : TT} {te : TE} {σ : St} {H : Hp} {Q : VK} (Pv : Nat → List V → Hp → Prop) (h0 : Pv 0 [] H) (hl : ∀ i ys H, i ≤ xs.length → Pv i ys H → SqL K H a xs ∧ ys.length < sizeLine)
    (hs : ∀ i x ys H, xs[i]? = some x → Pv i ys H → (∀ {P : Prop}, P → Nxt xs.length i P) → g x (capSt cap σ) H fun σ2 H2 => tt σ2 H2 fun b H3 => if b = true then te σ2 H3 fun v H4 => Nxt xs.length i (Pv (i + 1) (ys ++ [v]) H4) else Nxt xs.length i (Pv (i + 1) ys H3)) (hd : ∀ ys H, Pv xs.length ys H → ∀ p, H p = none → Q (.ref p) (upd H p (.lst ys))) :
    LcIn cap g tt te σ Q (Itl K a) H := by
  refine ⟨fun i m ys H => m = xs.length - i ∧ i ≤ xs.length ∧ Pv i ys H, ⟨xs.length, by simp, Nat.zero_le _, h0⟩, ?_⟩
  rintro i m ys H ⟨rfl, hi, p⟩
  have q := hl i ys H hi p
  by_cases hlt : i < xs.length
  · refine .inr ⟨⟨xs, xs[i], q.1, by simp [hlt]⟩, q.2, fun x H' y => ?_⟩
    obtain ⟨e, y⟩ := y
    subst e
    exact hs i x ys _ (y xs q.1) p fun h => ⟨_, by omega, rfl, hlt, h⟩
  · have e : i = xs.length := by omega
    subst e
    exact .inl ⟨⟨xs, q.1, Nat.le_refl _⟩, hd ys H p⟩
theorem lc_range {lo : Int} {n : Nat} {cap : List (Option Nat)} {g : TG} {tt : TT} {te : TE} {σ : St} {H : Hp} {Q : VK} (Pv : Nat → List V → Hp → Prop) (h0 : Pv 0 [] H) (hl : ∀ i ys H, i ≤ n → Pv i ys H → ys.length < sizeLine)
    (hs : ∀ i ys H, i < n → Pv i ys H → (∀ {P : Prop}, P → Nxt n i P) → g (.int (lo + i)) (capSt cap σ) H fun σ2 H2 => tt σ2 H2 fun b H3 => if b = true then te σ2 H3 fun v H4 => Nxt n i (Pv (i + 1) (ys ++ [v]) H4) else Nxt n i (Pv (i + 1) ys H3)) (hd : ∀ ys H, Pv n ys H → ∀ p, H p = none → Q (.ref p) (upd H p (.lst ys))) :
    LcIn cap g tt te σ Q (Itr lo n) H := by
  refine ⟨fun i m ys H => m = n - i ∧ i ≤ n ∧ Pv i ys H, ⟨n, by simp, Nat.zero_le _, h0⟩, ?_⟩
  rintro i m ys H ⟨rfl, hi, p⟩
  have q := hl i ys H hi p
  by_cases hlt : i < n
  · refine .inr ⟨hlt, q, fun x H' y => ?_⟩
    obtain ⟨e, y⟩ := y
    subst e y
    exact hs i ys _ hlt p fun h => ⟨_, by omega, rfl, hlt, h⟩
  · have e : i = n := by omega
    subst e
    exact .inl ⟨Nat.le_refl _, hd ys H p⟩
end L2
set_option Elab.async false
set_option linter.all false
set_option maxRecDepth 100000
set_option maxHeartbeats 2000000
namespace L2
open PySem PySem.Spec PyProof.Rows
def kDat : Key → PyData
  | .inl i => .int i
  | .inr x => .str x
mutual
def Dat (H : Hp) : PyData → V → Prop
  | .none, v => v = .non
  | .bool b, v => v = .bl b
  | .int i, v => v = .int i
  | .str x, v => v = .str x
  | .list ds, v => ∃ a xs, v = .ref a ∧ H a = some (.lst xs) ∧ DatAll H ds xs
  | .tuple ds, v => ∃ a xs, v = .ref a ∧ H a = some (.tup xs) ∧ DatAll H ds xs
  | .dict kvs, v => ∃ a ks, v = .ref a ∧ H a = some (.dK ks) ∧ DatKv H kvs ks
def DatAll (H : Hp) : List PyData → List V → Prop
  | [], vs => vs = []
  | d :: ds, vs => ∃ v r, vs = v :: r ∧ Dat H d v ∧ DatAll H ds r
def DatKv (H : Hp) : List (PyData × PyData) → List (Key × V) → Prop
  | [], ks => ks = []
  | (k, d) :: r, ks => ∃ q v t, ks = (q, v) :: t ∧ k = kDat q ∧ Dat H d v ∧ DatKv H r t
end
mutual
theorem Dat.mono {H H' : Hp} (g : Same H H') : ∀ (d : PyData) (v : V), Dat H d v → Dat H' d v
  | .none, v, h => h
  | .bool b, v, h => h
  | .int i, v, h => h
  | .str x, v, h => h
  | .list ds, v, h => by
    simp only [Dat] at h ⊢
    obtain ⟨a, xs, e, h1, h2⟩ := h
    exact ⟨a, xs, e, g _ _ h1, DatAll.mono g ds xs h2⟩
  | .tuple ds, v, h => by
    simp only [Dat] at h ⊢
    obtain ⟨a, xs, e, h1, h2⟩ := h
    exact ⟨a, xs, e, g _ _ h1, DatAll.mono g ds xs h2⟩
  | .dict kvs, v, h => by
    simp only [Dat] at h ⊢
    obtain ⟨a, xs, e, h1, h2⟩ := h
    exact ⟨a, xs, e, g _ _ h1, DatKv.mono g kvs xs h2⟩
theorem DatAll.mono {H H' : Hp} (g : Same H H') : ∀ (ds : List PyData) (vs : List V), DatAll H ds vs → DatAll H' ds vs
  | [], vs, h => h
  | d :: ds, vs, h => by
    simp only [DatAll] at h ⊢
    obtain ⟨v, r, e, h1, h2⟩ := h
    exact ⟨v, r, e, Dat.mono g d v h1, DatAll.mono g ds r h2⟩
theorem DatKv.mono {H H' : Hp} (g : Same H H') : ∀ (kvs : List (PyData × PyData)) (ks : List (Key × V)), DatKv H kvs ks → DatKv H' kvs ks
  | [], ks, h => h
  | (k, d) :: r, ks, h => by
    simp only [DatKv] at h ⊢
    obtain ⟨q, v, t, e1, e2, h1, h2⟩ := h
    exact ⟨q, v, t, e1, e2, Dat.mono g d v h1, DatKv.mono g r t h2⟩
end
theorem DatAll.len {H : Hp} : ∀ {ds : List PyData} {vs : List V}, DatAll H ds vs → ds.length = vs.length
  | [], vs, h => by simp only [DatAll] at h; rw [h]; rfl
  | d :: ds, vs, h => by
    simp only [DatAll] at h
    obtain ⟨v, r, rfl, _, h2⟩ := h
    rw [List.length_cons, List.length_cons, DatAll.len h2]
theorem DatAll.app {H : Hp} : ∀ {as : List PyData} {vs : List V} {bs : List PyData} {us : List V}, DatAll H as vs → DatAll H bs us → DatAll H (as ++ bs) (vs ++ us)
  | [], vs, bs, us, h, k => by simp only [DatAll] at h; subst h; exact k
  | d :: as, vs, bs, us, h, k => by
    simp only [DatAll] at h
    obtain ⟨v, r, rfl, h1, h2⟩ := h
    show DatAll H (d :: (as ++ bs)) (v :: (r ++ us))
    simp only [DatAll]
    exact ⟨v, _, rfl, h1, DatAll.app h2 k⟩
theorem DatAll.one {H : Hp} {d : PyData} {v : V} (h : Dat H d v) : DatAll H [d] [v] := by simp only [DatAll]; exact ⟨v, [], rfl, h, rfl⟩
theorem DatAll.last {H : Hp} : ∀ {ds : List PyData} {vs : List V}, DatAll H ds vs → vs ≠ [] → ∃ ds' d vs' v, ds = ds' ++ [d] ∧ vs = vs' ++ [v] ∧ DatAll H ds' vs' ∧ Dat H d v
  | [], vs, h, ne => by simp only [DatAll] at h; exact absurd h ne
  | [d], vs, h, ne => by
    simp only [DatAll] at h
    obtain ⟨v, r, rfl, h1, rfl⟩ := h
    exact ⟨[], d, [], v, rfl, rfl, by simp only [DatAll], h1⟩
  | d :: e :: ds, vs, h, ne => by
    have h' := h
    simp only [DatAll] at h
    obtain ⟨v, r, rfl, h1, v2, r2, rfl, h2, h3⟩ := h
    have h23 : DatAll H (e :: ds) (v2 :: r2) := by simp only [DatAll]; exact ⟨v2, r2, rfl, h2, h3⟩
    obtain ⟨ds', d', vs', v', e1, e2, h4, h5⟩ := DatAll.last h23 (by simp)
    refine ⟨d :: ds', d', v :: vs', v', by rw [e1]; rfl, by rw [e2]; rfl, ?_, h5⟩
    simp only [DatAll]; exact ⟨v, vs', rfl, h1, h4⟩
theorem len3 {α : Type} {xs : List α} (h : xs.length = 3) : ∃ x y z, xs = [x, y, z] := match xs, h with | [x, y, z], _ => ⟨x, y, z, rfl⟩
def off (w : Addr) (H : Hp) : Hp := fun b => if b = w then none else H b
theorem off_ne {w b : Addr} {H : Hp} (h : b ≠ w) : off w H b = H b := if_neg h
theorem off_le {w : Addr} {H : Hp} : Same (off w H) H := fun b o h => by
  unfold off at h
  by_cases c : b = w
  · rw [if_pos c] at h; cases h
  · rw [if_neg c] at h; exact h
theorem off_but {w : Addr} {H H' : Hp} (g : But w H H') : Same (off w H) (off w H') := fun b o h => by
  by_cases c : b = w
  · unfold off at h; rw [if_pos c] at h; cases h
  · rw [off_ne c] at h ⊢; exact g b o c h
def tyName : PyData → String
  | .none => "NoneType"
  | .bool _ => "bool"
  | .int _ => "int"
  | .str _ => "str"
  | .list _ => "list"
  | .tuple _ => "tuple"
  | .dict _ => "dict"
theorem Dat.ty {K : PySem.W.Frag} {H : Hp} {d : PyData} {v : V} (h : Dat H d v) : TyOf K H v (.type (tyName d)) := by
  cases d with
  | none => simp only [Dat] at h; subst h; exact .non
  | bool b => simp only [Dat] at h; subst h; exact .bl b
  | int i => simp only [Dat] at h; subst h; exact .int i
  | str x => simp only [Dat] at h; subst h; exact .str x
  | list ds => simp only [Dat] at h; obtain ⟨a, xs, rfl, e, _⟩ := h; exact .lst e
  | tuple ds => simp only [Dat] at h; obtain ⟨a, xs, rfl, e, _⟩ := h; exact .tup e
  | dict kvs => simp only [Dat] at h; obtain ⟨a, xs, rfl, e, _⟩ := h; exact .dK e
section
variable {X : Cx} {pins : List (Addr × Obj)} {σ : St} {H : Hp} {s : Shared}
theorem Inv.nosys (I : Inv X pins σ H s) {a : Addr} {o : HO} (h : H a = some o) : a ≠ sysModules := fun e => by
  obtain ⟨mm, ob, es, ep, g, _⟩ := I.mod.sysm
  have := (I.bs _ _ g).2
  rw [← e, h] at this; cases this
theorem key_reads {P : Program} {w : World} {h : Heap} {q : Key} {v : Value} (e : (mixKind P w).is q v = true) : Reads h v (kDat q) [] := by
  rw [mixKind_is] at e
  rcases keyIs_shape e with ⟨i, t, rfl, rfl⟩ | ⟨x, t, rfl, rfl⟩
  · exact .int i t
  · exact .str x t
mutual
theorem Dat.reads (I : Inv X pins σ H s) : ∀ (d : PyData) (v : V) (u : Value), Dat H d v → RelV v u → ∃ as, Reads s.heap u d as ∧ sysModules ∉ as
  | .none, v, u, h, r => by
    simp only [Dat] at h; subst h; cases r; exact ⟨_, .none, by simp⟩
  | .bool b, v, u, h, r => by
    simp only [Dat] at h; subst h; cases r; exact ⟨_, .bool b, by simp⟩
  | .int i, v, u, h, r => by
    simp only [Dat] at h; subst h; obtain ⟨t, rfl⟩ := r; exact ⟨_, .int i t, by simp⟩
  | .str x, v, u, h, r => by
    simp only [Dat] at h; subst h; obtain ⟨t, rfl⟩ := r; exact ⟨_, .str x t, by simp⟩
  | .list ds, v, u, h, r => by
    simp only [Dat] at h
    obtain ⟨a, xs, rfl, hr, hd⟩ := h
    cases r
    obtain ⟨its, rv, ⟨o, n, e1, e2, _, e3⟩, _⟩ := I.list (SqL.of hr)
    obtain ⟨as, ra, na⟩ := DatAll.reads I ds xs its hd rv
    have ho := hr
    refine ⟨_, .list e1 e2 e3 (by simpa using ra), fun z => ?_⟩
    rcases List.mem_cons.mp z with z | z
    · exact I.nosys ho z.symm
    · exact na z
  | .tuple ds, v, u, h, r => by
    simp only [Dat] at h
    obtain ⟨a, xs, rfl, hr, hd⟩ := h
    cases r
    obtain ⟨its, rv, ⟨o, e1, e2, n, e3⟩, _⟩ := I.tuple (SqT.of hr)
    obtain ⟨as, ra, na⟩ := DatAll.reads I ds xs its hd rv
    exact ⟨_, .tuple e1 e2 e3 (by simpa using ra), na⟩
  | .dict kvs, v, u, h, r => by
    simp only [Dat] at h
    obtain ⟨a, ks, rfl, hr, hd⟩ := h
    cases r
    obtain ⟨_, _, vs, rel, o, es, ep, e1, ex, e3, _, pr, _⟩ := dk_of I.hok hr
    obtain ⟨as, bs, ra, rb, na, nb⟩ := DatKv.reads I kvs ks vs es.toList hd rel pr
    have ho := hr
    refine ⟨_, .dict e1 ex.1 e3 ra rb, fun z => ?_⟩
    rcases List.mem_append.mp z with z | z
    · rcases List.mem_cons.mp z with z | z
      · exact I.nosys ho z.symm
      · exact na z
    · exact nb z
theorem DatAll.reads (I : Inv X pins σ H s) : ∀ (ds : List PyData) (vs : List V) (us : List Value), DatAll H ds vs → Vals vs us → ∃ as, ReadsAll s.heap us ds as ∧ sysModules ∉ as
  | [], vs, us, h, r => by
    simp only [DatAll] at h; subst h; cases r; exact ⟨_, .nil, by simp⟩
  | d :: ds, vs, us, h, r => by
    simp only [DatAll] at h
    obtain ⟨v, t, rfl, h1, h2⟩ := h
    cases r with
    | cons r1 r2 =>
      obtain ⟨as, ra, na⟩ := Dat.reads I d v _ h1 r1
      obtain ⟨bs, rb, nb⟩ := DatAll.reads I ds t _ h2 r2
      exact ⟨_, .cons ra rb, fun z => (List.mem_append.mp z).elim na nb⟩
theorem DatKv.reads (I : Inv X pins σ H s) : ∀ (kvs : List (PyData × PyData)) (ks : List (Key × V)) (vs : List (Key × Value)) (es : List DictEntry), DatKv H kvs ks → KV ks vs → Pairs (mixKind X.prog X.w) es vs →
    ∃ as bs, ReadsAll s.heap (es.map (·.key)) (kvs.map (·.1)) as ∧ ReadsAll s.heap (es.map (·.val)) (kvs.map (·.2)) bs ∧ sysModules ∉ as ∧ sysModules ∉ bs
  | [], ks, vs, es, h, r, p => by
    simp only [DatKv] at h; subst h; cases r; cases p; exact ⟨_, _, .nil, .nil, by simp, by simp⟩
  | (k, d) :: kr, ks, vs, es, h, r, p => by
    simp only [DatKv] at h
    obtain ⟨q, v, t, rfl, rfl, h1, h2⟩ := h
    cases r with
    | cons r1 r2 =>
      cases p with
      | cons p1 p2 p3 =>
        obtain ⟨rk, rv⟩ := r1
        obtain ⟨as, bs, ra, rb, na, nb⟩ := DatKv.reads I kr t _ _ h2 r2 p3
        obtain ⟨cs, rc, nc⟩ := Dat.reads I d v _ h1 rv
        have rk' : q = _ := rk
        subst rk'
        have kd := key_reads (h := s.heap) p1
        refine ⟨[] ++ as, cs ++ bs, .cons kd ra, .cons (by dsimp only; rw [p2]; exact rc) rb, by simpa using na, fun z => (List.mem_append.mp z).elim nc nb⟩
end
theorem call_repr (hg : X.A.guards = some []) (hu : X.A.units + 64 < cLine) : CallR X (.builtin "repr") (fun xs H Q => ∃ x d, xs = [x] ∧ Dat H d x ∧ d.showable = true ∧ d.depth ≤ 60 ∧ d.shown.length ≤ sizeLine ∧ Q (.str d.shown) H) := by
  intro pins s σ H xs us Q I r h
  obtain ⟨x, d, rfl, hd, hs, hdp, hl, q⟩ := h
  obtain ⟨u, rfl, ru⟩ := vals1 r
  have key : ∀ a, u = .ref a → wpAny (model X.prog X.w) X.A (call (.builtin "repr") [u]) (EP X pins σ Q) X.xe s := fun a e => by
    subst e
    obtain ⟨as, ra, na⟩ := Dat.reads I d x _ hd ru
    refine repr_of_reads' ra hs (fun _ => na) hg (by omega) (fun _ _ e => e) (fun h' u tk hk => ?_) hl
    exact ⟨.str d.shown, H, I.kept hk, ⟨u, rfl⟩, q⟩
  cases d with
  | none =>
    simp only [Dat] at hd; subst hd; cases ru
    rw [PyData.shown_none] at q
    exact PySem.P.repr_of_none ⟨.str "None", H, I.tok _, ⟨_, rfl⟩, q⟩
  | bool b =>
    simp only [Dat] at hd; subst hd; cases ru
    rw [PyData.shown_bool] at q
    exact PySem.P.repr_of_bool ⟨.str _, H, I.tok _, ⟨_, rfl⟩, q⟩
  | int i =>
    simp only [Dat] at hd; subst hd; obtain ⟨t, rfl⟩ := ru
    rw [PyData.shown_int] at q
    exact PySem.P.repr_of_int (by simpa [PyData.showable] using hs) ⟨.str _, H, I.tok _, ⟨_, rfl⟩, q⟩
  | str z =>
    simp only [Dat] at hd; subst hd; obtain ⟨t, rfl⟩ := ru
    rw [PyData.shown_str] at q hl
    exact PySem.P.repr_of_str ⟨.str _, H, I.tok _, ⟨_, rfl⟩, q⟩ hl
  | list ds =>
    have hd' := hd
    simp only [Dat] at hd'
    obtain ⟨a, _, rfl, _⟩ := hd'
    exact key a ru
  | tuple ds =>
    have hd' := hd
    simp only [Dat] at hd'
    obtain ⟨a, _, rfl, _⟩ := hd'
    exact key a ru
  | dict kvs =>
    have hd' := hd
    simp only [Dat] at hd'
    obtain ⟨a, _, rfl, _⟩ := hd'
    exact key a ru
end
end L2
set_option Elab.async false
set_option linter.all false
set_option maxRecDepth 100000
set_option maxHeartbeats 2000000
namespace L2
open PySem PySem.Spec PyProof.Rows
section
variable {X : Cx}
theorem mt_str_index : MtR X "str.index" (fun x vs H Q => ∃ z y i rest, x = .str z ∧ vs = [.str y] ∧ Builtin.Str.occurrences z y 0 z.length 1 = i :: rest ∧ Q (.int (i : Nat)) H) := by
  intro pins s σ H x vs v us Q I rx rv h
  obtain ⟨z, y, i, rest, rfl, rfl, ho, q⟩ := h
  obtain ⟨t, rfl⟩ := rx
  obtain ⟨u, rfl, ru⟩ := vals1 rv
  obtain ⟨t2, rfl⟩ := ru
  exact PySem.SC.index ho ⟨.int (i : Nat), H, I.tok _, ⟨_, rfl⟩, q⟩
end
end L2
set_option Elab.async false
set_option linter.all false
set_option maxRecDepth 100000
set_option maxHeartbeats 2000000
namespace L2
open PySem PySem.Spec PyProof.Rows
theorem Inv.turnedL {X : Cx} {pins : List (Addr × Obj)} {σ : St} {H : Hp} {s : Shared} {h' : Heap} {t' : Nat} {fp : List Addr} (I : Inv X pins σ H s) (k : ∀ b o, b ∉ fp → s.heap.get? b = some o → h'.get? b = some o) (hf : ∀ b ∈ fp, FpOk X pins H b) : Inv X pins σ H { s with heap := h', toks := t' } := by
  have nit : ∀ b u, H b = some u → b ∉ fp := fun b u e z => by rw [(hf b z).1] at e; cases e
  refine I.step (g' := s.gens) (d' := s.drawn) (ch := fp) (fun b hb => ⟨(hf b hb).2.2.2.1, (hf b hb).2.1, (hf b hb).2.2.2.2.1, (hf b hb).2.2.2.2.2⟩) (fun b o _ _ hc e _ => k b o hc e) (fun b o _ _ hc e _ => ⟨o.slots, k b o hc e⟩) (fun _ _ _ _ n => n)
    (fun b o hc e => ⟨o, k b o hc e⟩) (fun _ _ e => e) (fun _ _ _ e => e) (fun b ps e => ⟨#[], by rw [e]; simp⟩) (fun m hm => ?_) (fun b u e => ?_) I.bare
  · obtain ⟨o, es, ep, ho, r⟩ := hm
    exact ⟨o, es, ep, k _ o (fun z => (hf _ z).2.1 rfl) ho, r⟩
  · refine (I.hok b u e).stay (fun c v hc q => k c v ?_ q) (fun _ q => q) fun _ _ q => q
    rcases hc with z | z
    · rw [z]; exact nit b u e
    · exact nit c _ z
end L2
set_option Elab.async false
set_option linter.all false
set_option maxRecDepth 100000
set_option maxHeartbeats 2000000
namespace L2
open PySem PySem.Spec PyProof.Rows
section
variable {prog : Program} {w : World} {κ : Type} [DecidableEq κ] {knd : HeapKind prog w κ} {A : Around} {E : Value → Shared → Prop} {s : Shared}
end
end L2
set_option Elab.async false
set_option linter.all false
set_option maxRecDepth 100000
set_option maxHeartbeats 2000000
namespace L2
open PySem PySem.Spec PyProof.Rows
section
variable {prog : Program} {w : World} {κ : Type} [DecidableEq κ] {knd : HeapKind prog w κ} {A : Around} {E : Value → Shared → Prop} {s : Shared}
inductive HitsH (A : Around) (s : Shared) (kb : List (κ × Addr × Value)) : List (κ × Addr × Value) → Bool → Prop
  | nil : HitsH A s kb [] true
  | miss {k : κ} {a : Addr} {v : Value} {r : List (κ × Addr × Value)} : atKey kb k = none → HitsH A s kb ((k, a, v) :: r) false
  | hit {k : κ} {a c : Addr} {v y : Value} {r : List (κ × Addr × Value)} {e b : Bool} : atKey kb k = some (c, y) → SeqAt.EqAt A s v y e → HitsH A s kb r b → HitsH A s kb ((k, a, v) :: r) (e && b)
end
end L2
set_option Elab.async false
set_option linter.all false
set_option maxRecDepth 100000
set_option maxHeartbeats 2000000
namespace L2
open PySem PySem.Spec PyProof.Rows
inductive HitsV (K : PySem.W.Frag) (H : Hp) (n : Nat) (kb : List (List Key × V)) : List (List Key × V) → Bool → Prop
  | nil : HitsV K H n kb [] true
  | miss {k : List Key} {v : V} {r : List (List Key × V)} : valV kb k = none → HitsV K H n kb ((k, v) :: r) false
  | hit {k : List Key} {v y : V} {r : List (List Key × V)} {e b : Bool} : valV kb k = some y → EqR K H n v y e → HitsV K H n kb r b → HitsV K H n kb ((k, v) :: r) (e && b)
end L2
set_option Elab.async false
set_option linter.all false
set_option maxRecDepth 100000
set_option maxHeartbeats 2000000
namespace L2
open PySem PySem.Spec PyProof.Rows
section
variable {prog : Program} {w : World} {κ : Type} [DecidableEq κ] {knd : HeapKind prog w κ} {A : Around} {E : Value → Shared → Prop}
variable {s : Shared}
end
end L2
set_option Elab.async false
set_option linter.all false
set_option maxRecDepth 100000
set_option maxHeartbeats 2000000
namespace L2
open PySem PySem.Spec PyProof.Rows
section
variable {prog : Program} {w : World} {A : Around} {E : Value → Shared → Prop} {s : Shared}
end
end L2
set_option Elab.async false
set_option linter.all false
set_option maxRecDepth 100000
set_option maxHeartbeats 2000000
namespace L2
open PySem PySem.Spec PyProof.Rows PySem.W
section
variable {prog : Program} {w : World} {A : Around} {E : Value → Shared → Prop} {s : Shared}
end
end L2
namespace L2
end L2
set_option Elab.async false
set_option linter.all false
set_option maxRecDepth 100000
set_option maxHeartbeats 2000000
namespace L2
open PySem PySem.Spec PyProof.Rows
section
variable {prog : Program} {w : World} {A : Around} {E : Value → Shared → Prop} {s : Shared}
end
end L2
set_option Elab.async false
set_option linter.all false
set_option maxRecDepth 100000
set_option maxHeartbeats 2000000
namespace L2
open PySem PySem.Spec PyProof.Rows
end L2
set_option Elab.async false
set_option linter.all false
set_option maxRecDepth 100000
set_option maxHeartbeats 2000000
namespace L2
open PySem PySem.Spec PyProof.Rows
def Its (z : Str) : It :=
  ⟨fun i _ => i < z.cps.size, fun i H x H' => H' = H ∧ ∃ c, z.cps[i]? = some c ∧ x = .str ⟨#[c]⟩, fun i _ => z.cps.size ≤ i⟩
theorem turn_str {P : Program} {w : World} {K : PySem.W.Frag} {tg : Expr} (it : Addr) (z : Str) (t : Tok) : Turn P w K tg (Its z) [it] it (fun i h => h.IsStrIter it "str_ascii_iterator" z t i) where
  mem := by simp
  obj := fun i h st b hb => by
    have e : b = it := by simpa using hb
    subst e
    obtain ⟨o, e, c, d⟩ := st
    exact ⟨o, e, fun v z => by rw [d] at z; cases z⟩
  keep := fun i h h' st k => by
    obtain ⟨o, e, r⟩ := st
    exact ⟨o, k it (by simp) o e, r⟩
  item := by
    intro X hP hw hK hc i pins s σ H E I hf st hg
    subst hP hw hK
    have hg : i < z.cps.size := hg
    obtain ⟨f0, f1, f2, f3, f4, f5⟩ := hf it (by simp)
    have hx : z.cps[i]? = some z.cps[i] := by simp [hg]
    refine wpAny_pyNext_ascii_item st (c := z.cps[i]) hx fun h' st' sb => ?_
    have I1 : Inv X pins σ H { s with heap := h', toks := s.toks + 1 } := I.turned (t' := s.toks + 1) (fun b o hb e => (sb.2 b hb).trans e) f0 f1 f3 f4 f5
    obtain ⟨o, e, c, d⟩ := id st'
    exact ⟨_, rfl, go_of (s := { s with heap := h', toks := s.toks + 1 }) e c d (by decide) ⟨.str ⟨#[z.cps[i]]⟩, H, I1, ⟨_, rfl⟩, ⟨rfl, _, hx, rfl⟩, st', fun b hb => (hf b hb).1⟩⟩
  done := by
    intro X hP hw hK hc i pins s σ H E I hf st hg
    subst hP hw hK
    have hg : z.cps.size ≤ i := hg
    obtain ⟨f0, f1, f2, f3, f4, f5⟩ := hf it (by simp)
    exact wpAny_pyNext_ascii_end (I.ok.hd hc) st (by simp [hg]) fun h' eb => ⟨rfl, I.turned (t' := s.toks) (fun b o hb e => eb b o hb e) f0 f1 f3 f4 f5⟩
  self := fun _ _ _ _ _ st h => wpAny_pyIter_striter_ascii st h
def iStr (tl : TE) : TI := fun σ H R => tl σ H fun x H1 => ∃ z, x = .str z ∧ z.cps.all (· < 128) = true ∧ R (Its z) H1
theorem pi_str {X : Cx} {tg l : Expr} {tl : TE} (hl : PE X l tl) : PI X tg l (iStr tl) := by
  intro pins s σ H R I h
  refine thn (hl pins s σ H _ I h) fun v s1 ⟨x, H1, I1, r1, q1⟩ => ?_
  obtain ⟨z, e, ha, q⟩ := q1
  subst e
  obtain ⟨t, rfl⟩ := r1
  refine wpAny_pyIter_ascii ha ?_
  refine ⟨s1.heap.objs.size, [s1.heap.objs.size], _, _, H1, rfl, I1.kept (t' := s1.toks) fun b o e => Heap.get?_push_of_some _ e, turn_str _ z t, ⟨_, Heap.get?_push_size _ rfl, rfl, rfl⟩, fun b hb => ?_, q⟩
  have e : b = s1.heap.objs.size := by simpa using hb
  subst e
  exact I1.fpOk (Nat.le_refl _) (I1.hok.fresh (Nat.le_refl _))
theorem lc_str {z : Str} {cap : List (Option Nat)} {g : TG} {tt : TT} {te : TE} {σ : St} {H : Hp} {Q : VK} (Pv : Nat → List V → Hp → Prop) (h0 : Pv 0 [] H) (hl : ∀ i ys H, i ≤ z.cps.size → Pv i ys H → ys.length < sizeLine)
    (hs : ∀ i c ys H, z.cps[i]? = some c → Pv i ys H → (∀ {P : Prop}, P → Nxt z.cps.size i P) → g (.str ⟨#[c]⟩) (capSt cap σ) H fun σ2 H2 => tt σ2 H2 fun b H3 => if b = true then te σ2 H3 fun v H4 => Nxt z.cps.size i (Pv (i + 1) (ys ++ [v]) H4) else Nxt z.cps.size i (Pv (i + 1) ys H3)) (hd : ∀ ys H, Pv z.cps.size ys H → ∀ p, H p = none → Q (.ref p) (upd H p (.lst ys))) :
    LcIn cap g tt te σ Q (Its z) H := by
  refine ⟨fun i m ys H => m = z.cps.size - i ∧ i ≤ z.cps.size ∧ Pv i ys H, ⟨z.cps.size, by simp, Nat.zero_le _, h0⟩, ?_⟩
  rintro i m ys H ⟨rfl, hi, p⟩
  have q := hl i ys H hi p
  by_cases hlt : i < z.cps.size
  · refine .inr ⟨hlt, q, fun x H' y => ?_⟩
    obtain ⟨e, c, y, ex⟩ := y
    subst e ex
    exact hs i c ys _ y p fun h => ⟨_, by omega, rfl, hlt, h⟩
  · have e : i = z.cps.size := by omega
    subst e
    exact .inl ⟨Nat.le_refl _, hd ys H p⟩
end L2
set_option Elab.async false
set_option linter.all false
set_option maxRecDepth 100000
set_option maxHeartbeats 2000000
namespace PySem
open Sem (wp)
namespace F
end F
section
variable {prog : Program} {w : World} {A : Around} {E : Value → Shared → Prop} {h : Heap} {g : Array GenState} {d : Drawn} {t : Nat} {os : OsState} {a : Addr} {vs : Array Value}
end
end PySem
namespace L2
open PySem PySem.Spec PyProof.Rows
section
variable {prog : Program} {w : World} {A : Around} {E : Value → Shared → Prop} {s : Shared}
end
end L2
set_option Elab.async false
set_option linter.all false
set_option maxRecDepth 100000
set_option maxHeartbeats 2000000
namespace L2
open PySem PySem.Spec PyProof.Rows
theorem call_all {X : Cx} (hc : X.calm = true) : CallR X (.builtin "all") (fun xs H Q => ∃ (p : Addr) (bs : List Bool), xs = [.ref p] ∧ SqL X.K H p (bs.map V.bl) ∧ Q (.bl (bs.all id)) H) := by
  intro pins s σ H xs us Q I r h
  obtain ⟨p, bs, rfl, hq, q⟩ := h
  obtain ⟨u, rfl, rx⟩ := vals1 r
  cases rx
  obtain ⟨its, r', pl, hz⟩ := I.list hq
  have hlen := r'.length
  rw [List.length_map] at hlen
  have hps : p < s.heap.objs.size := by obtain ⟨o, n, ho, _⟩ := pl; exact Heap.lt_size ho
  refine call_all_walk (wpAny_pyIter_list pl.isList ?_)
  refine ⟨s.heap.objs.size, _, _, _, _, _, fun i => bs.getD i true, rfl, Walks.list (A := X.A.in1) (I.ok.hd hc) s.heap.objs.size p (Nat.ne_of_lt hps) its.toArray, ⟨⟨_, Heap.get?_push_size _ rfl, rfl, rfl⟩, pl.isList.at fun o x => Heap.get?_push_of_some _ x⟩, ?_, ?_⟩
  · intro i v s' Q' E' hP hQ'
    have hv : its.toArray[i]? = some v := hP
    have hv2 : its[i]? = some v := by simpa using hv
    have hi : i < bs.length := by
      have := (List.getElem?_eq_some_iff.mp hv2).1
      omega
    have hb : (bs.map V.bl)[i]? = some (.bl bs[i]) := by rw [List.getElem?_map, List.getElem?_eq_getElem hi]; rfl
    obtain ⟨u, hu, ru⟩ := r'.get hb
    rw [hv2] at hu
    cases hu
    cases ru
    have e : bs.getD i true = bs[i] := by rw [List.getD_eq_getElem?_getD, List.getElem?_eq_getElem hi]; rfl
    have hQ2 : Q' (bs.getD i true) s' := hQ'
    rw [e] at hQ2
    exact wpAny_pure hQ2
  · intro h' tk k
    have I2 : Inv X pins σ H { s with heap := h', toks := tk } := by
      refine I.turnedL (fp := [s.heap.objs.size]) (t' := tk) (fun b o hb x => k b o (by simpa using hb) (Heap.get?_push_of_some _ x)) fun b hb => ?_
      have e : b = s.heap.objs.size := by simpa using hb
      subst e
      exact I.fpOk (Nat.le_refl _) (I.hok.fresh (Nat.le_refl _))
    have e : (List.range its.toArray.size).all (fun i => bs.getD i true) = bs.all id := by
      have e1 : its.toArray.size = bs.length := by simp; omega
      rw [e1]
      apply Bool.eq_iff_iff.mpr
      rw [List.all_eq_true, List.all_eq_true]
      constructor
      · intro hh b hb
        obtain ⟨i, hi, e⟩ := List.getElem_of_mem hb
        have := hh i (List.mem_range.mpr hi)
        rw [List.getD_eq_getElem?_getD, List.getElem?_eq_getElem hi] at this
        rw [← e]; exact this
      · intro hh i hi
        have hi := List.mem_range.mp hi
        rw [List.getD_eq_getElem?_getD, List.getElem?_eq_getElem hi]
        exact hh _ (List.getElem_mem hi)
    rw [e]
    exact ⟨.bl (bs.all id), H, I2, rfl, q⟩
end L2
set_option Elab.async false
set_option linter.all false
set_option maxRecDepth 100000
set_option maxHeartbeats 2000000
namespace L2
open PySem PySem.Spec PyProof.Rows
end L2
set_option Elab.async false
set_option linter.all false
set_option maxRecDepth 100000
set_option maxHeartbeats 4000000
namespace L2
open PySem PySem.Spec PyProof.Rows
section
variable {X : Cx}
end
end L2
set_option Elab.async false
set_option linter.all false
set_option maxRecDepth 100000
set_option maxHeartbeats 2000000
namespace L2
open PySem PySem.Spec PyProof.Rows
def lack (h : Heap) (S : List Addr) : Heap := ⟨h.objs.mapIdx fun i o => if i ∈ S then { o with data := .freed } else o, h.life⟩
theorem lack_in {h : Heap} {S : List Addr} {b : Addr} (hb : b ∈ S) : (lack h S).get? b = none := by
  unfold lack Heap.get?
  simp only [Array.getElem?_mapIdx]
  cases e : h.objs[b]? with
  | none => rfl
  | some o => simp [hb]
theorem lack_out {h : Heap} {S : List Addr} {b : Addr} (hb : b ∉ S) : (lack h S).get? b = h.get? b := by
  unfold lack Heap.get?
  simp only [Array.getElem?_mapIdx]
  cases e : h.objs[b]? with
  | none => rfl
  | some o => simp [hb]
theorem lack_stays (h : Heap) (S : List Addr) : (lack h S).StaysIn h := fun b o e => by
  by_cases hb : b ∈ S
  · rw [lack_in hb] at e; cases e
  · rw [lack_out hb] at e; exact e
theorem frames_lack {h h1 base : Heap} {S : List Addr} : ∀ {l : List Env}, (∀ b ∈ l.filterMap (·.frame), b ∈ S) → h1.FunFrames base l → h1.FunFrames (lack h S) l
  | [], _, _ => trivial
  | env :: rest, hs, ⟨hk, ⟨L, o, hf, hn, ho, hd⟩, hr⟩ => by
    refine ⟨hk, ⟨L, o, hf, lack_in (hs L ?_), ho, hd⟩, frames_lack (fun b hb => hs b ?_) hr⟩
    · rw [List.filterMap_cons, hf]; exact List.mem_cons_self
    · rw [List.filterMap_cons, hf]; exact List.mem_cons_of_mem _ hb
def Trc (h : Heap) (e T : Addr) (cls : Value) : Prop := ∃ oe vs oT ts a0, h.get? e = some oe ∧ (oe.cls = cls ∧ vs[0]? = some a0) ∧ oe.data = .fields vs ∧ vs[1]? = some (.ref T) ∧ T ≠ e ∧ h.get? T = some oT ∧ oT.data = .fields ts ∧ ts[3]? = some .none
section
variable {M : Model} {A : Around} {E : Value → Shared → Prop} {s : Shared}
structure Lft (l : List Env) (e : Addr) (x : List Addr) (h h' : Heap) : Prop where
  keep : ∀ b o, b ∉ l.filterMap (·.frame) → b ≠ e → b ∉ x → h.get? b = some o → h'.get? b = some o
  slot : ∀ b o, b ∈ l.filterMap (·.frame) → h.get? b = some o → ∃ sl, h'.get? b = some { o with slots := sl }
theorem lft_of {base b0 : Heap} {l : List Env} {e : Addr} {x : List Addr} {cls : Value} {h h' : Heap} (hl : h.FunFrames b0 l) {a0 : Value} (L : Heap.LeftW (lack h (e :: x ++ l.filterMap (·.frame))) l e cls a0 h h') (he : h.get? e ≠ none) :
    Lft l e x h h' ∧ ∃ T, Trc h' e T cls ∧ (T ∈ x ∨ h.get? T = none) := by
  obtain ⟨k1, k2, k3, k4⟩ := L
  refine ⟨⟨fun b o hb hbe hx ho => k1 b o (by rw [lack_out]; exact ho; simp [hb, hbe, hx]), fun b o hb ho => ?_⟩, ?_⟩
  · obtain ⟨_, o', ho', hd⟩ := hl.mem hb
    rw [ho] at ho'; cases ho'
    exact k4 b o ho hd
  · obtain ⟨oe, vs, T, oT, ts, h1, h2, h3, h4, h5, h6, h7, h8, h9⟩ := k3
    refine ⟨T, ⟨oe, vs, oT, ts, a0, h1, h2, h3, h4, h6, h7, h8, h9⟩, ?_⟩
    by_cases hT : T ∈ x
    · exact .inl hT
    · refine .inr ?_
      have nf : T ∉ l.filterMap (·.frame) := fun z => by
        obtain ⟨_, o, ho, hd⟩ := k2.mem z
        rw [h7] at ho; cases ho
        exact hd ts h8
      rw [lack_out (by simp [hT, h6, nf])] at h5
      exact h5
theorem leave_first {b0 : Heap} {env : Env} {outer : List Env} {L e : Addr} {oe : Obj} {vs : Array Value} {Q : Unit → Shared → Prop} (hfr : A.frames = some (env :: outer)) (hl : s.heap.FunFrames b0 (env :: outer)) (hf : env.frame = some L)
    (he : s.heap.get? e = some oe) (hd : oe.data = .fields vs) (h1 : vs[1]? = some .none) {a0 : Value} (h0 : vs[0]? = some a0)
    (h : ∀ h' T, Lft (env :: outer) e [] s.heap h' → Trc h' e T oe.cls → s.heap.get? T = none → Q () { s with heap := h' }) : wpAny M A (leaving env (.ref e)) Q E s := by
  refine wpAny_leaving_firstW (a0 := a0) (base := lack s.heap (e :: [] ++ (env :: outer).filterMap (·.frame))) hfr (frames_lack (fun b hb => List.mem_append_right _ hb) hl) hf he (lack_stays _ _) (lack_in (by simp)) hd h1 h0 fun h' L' => ?_
  obtain ⟨l', T, t, z⟩ := lft_of (base := b0) hl L' (by rw [he]; simp)
  rcases z with z | z
  · exact absurd z (by simp)
  · exact h h' T l' t z
theorem leave_next {b0 : Heap} {env : Env} {outer : List Env} {L e T : Addr} {cls : Value} {Q : Unit → Shared → Prop} (hfr : A.frames = some (env :: outer)) (hl : s.heap.FunFrames b0 (env :: outer)) (hf : env.frame = some L)
    (ht : Trc s.heap e T cls)
    (h : ∀ h' T', Lft (env :: outer) e [T] s.heap h' → Trc h' e T' cls → (T' = T ∨ s.heap.get? T' = none) → Q () { s with heap := h' }) : wpAny M A (leaving env (.ref e)) Q E s := by
  obtain ⟨oe, vs, oT, ts, a0, h1, h2, h3, h4, h6, h7, h8, h9⟩ := ht
  refine wpAny_leaving_nextW (a0 := a0) (base := lack s.heap (e :: [T] ++ (env :: outer).filterMap (·.frame))) (cls := cls) hfr (frames_lack (fun b hb => List.mem_append_right _ hb) hl) hf ⟨oe, vs, T, oT, ts, h1, h2, h3, h4, lack_in (by simp), h6, h7, h8, h9⟩ (lack_stays _ _) (lack_in (by simp)) fun h' L' => ?_
  obtain ⟨l', T', t, z⟩ := lft_of (base := b0) hl L' (by rw [h1]; simp)
  refine h h' T' l' t ?_
  rcases z with z | z
  · exact .inl (by simpa using z)
  · exact .inr z
end
def CX1 (P : Program) (w : World) : CXT := fun outer H s E e s' => ∃ (ea T C : Addr) (H' : Hp), e = .ref ea ∧ s'.os = s.os ∧ AllBare s'.gens ∧ Un (frs outer) [] H H' s.heap s'.heap ∧ HOk P w H' s'.heap ∧ s.heap.get? ea = none ∧ s.heap.get? T = none ∧ H' ea = none ∧ H' T = none ∧ Trc s'.heap ea T (.ref C) ∧ E (.ref C) none H'
theorem frames_un {h h' base : Heap} : ∀ {l : List Env}, (∀ b ∈ frs l, ∀ o, h.get? b = some o → ∃ sl, h'.get? b = some { o with slots := sl }) → h.FunFrames base l → h'.FunFrames base l
  | [], _, _ => trivial
  | env :: rest, k, ⟨hk, ⟨L, o, hf, hn, ho, hd⟩, hr⟩ => by
    have m : ∀ b, b = L ∨ b ∈ frs rest → b ∈ frs (env :: rest) := fun b hb => by
      show b ∈ (env :: rest).filterMap (·.frame)
      rw [List.filterMap_cons, hf]
      rcases hb with rfl | hb
      · exact List.mem_cons_self
      · exact List.mem_cons_of_mem _ hb
    obtain ⟨sl, e⟩ := k L (m L (.inl rfl)) o ho
    exact ⟨hk, ⟨L, _, hf, hn, e, hd⟩, frames_un (fun b hb => k b (m b (.inr hb))) hr⟩
theorem frs_cons {env : Env} {outer : List Env} {L : Addr} (hf : env.frame = some L) : frs (env :: outer) = L :: frs outer := by
  show (env :: outer).filterMap (·.frame) = _
  rw [List.filterMap_cons, hf]; rfl
theorem un_left {env : Env} {outer : List Env} {L e : Addr} {x : List Addr} {H0 H' : Hp} {h0 h1 h2 : Heap} (hf : env.frame = some L) (u : Un (frs (env :: outer)) [] H0 H' h0 h1) (l : Lft (env :: outer) e x h1 h2) (hL : h0.get? L = none) (he : h0.get? e = none) (hx : ∀ b ∈ x, h0.get? b = none) :
    Un (frs outer) [] H0 H' h0 h2 := by
  have ne : ∀ b o, h0.get? b = some o → b ≠ L ∧ b ≠ e ∧ b ∉ x := fun b o q => ⟨(fun z => by rw [z, hL] at q; cases q), (fun z => by rw [z, he] at q; cases q), (fun z => by rw [hx b z] at q; cases q)⟩
  have fr : ∀ b, b ∈ frs (env :: outer) ↔ b = L ∨ b ∈ frs outer := fun b => by rw [frs_cons hf, List.mem_cons]
  have fwd : ∀ b o, h0.get? b = some o → ∀ o', h1.get? b = some o' → ∃ sl, h2.get? b = some { o' with slots := sl } := fun b o q o' q' => by
    by_cases hb : b ∈ frs (env :: outer)
    · exact l.slot b o' hb q'
    · exact ⟨o'.slots, l.keep b o' hb (ne b o q).2.1 (ne b o q).2.2 q'⟩
  refine ⟨fun b o q n hb _ => ?_, fun b o q n hb _ => ?_, fun b o q n h => u.free b o q n h, fun b o q h => ?_, u.tups, u.frzs, u.tbls⟩
  · have nb : b ∉ frs (env :: outer) := fun z => ((fr b).mp z).elim (ne b o q).1 hb
    exact l.keep b o nb (ne b o q).2.1 (ne b o q).2.2 (u.keep b o q n nb (by simp))
  · obtain ⟨sl, e1⟩ := u.slot b o q n ((fr b).mpr (.inr hb)) (by simp)
    obtain ⟨sl', e2⟩ := fwd b o q _ e1
    exact ⟨sl', e2⟩
  · obtain ⟨o', e1⟩ := u.there b o q h
    obtain ⟨sl, e2⟩ := fwd b o q o' e1
    exact ⟨_, e2⟩
theorem hok_left {P : Program} {w : World} {l : List Env} {e : Addr} {x : List Addr} {H : Hp} {h1 h2 : Heap} (ok : HOk P w H h1) (f : Lft l e x h1 h2) (hl : ∀ b ∈ frs l, H b = none) (he : H e = none) (hx : ∀ b ∈ x, H b = none) : HOk P w H h2 := fun b u q =>
  (ok b u q).stay (fun c v hc r => by
    have hn : H c ≠ none := by rcases hc with rfl | hc; rw [q]; simp; rw [hc]; simp
    exact f.keep c v (fun z => hn (hl c z)) (fun z => hn (by rw [z]; exact he)) (fun z => hn (hx c z)) r) (fun _ r => r) fun _ _ r => r
section
variable {P : Program} {w : World} {K : PySem.W.Frag} {mg : Str → Option Value} {base : Heap} {N : List Str} {qual : Str} {scope : Scope} {f : Addr} {cd : Value} {A : Around} {outer : List Env} {s0 : Shared} {H0 : Hp} {E : XK}
theorem raise1 {pins : List (Addr × Obj)} {σ : St} {H : Hp} {s : Shared} {h' : Heap} {e C : Addr} {args : List Value} (I : Inv (cxOf (CX1 P w) P w K mg base N qual scope f cd A outer s0 H0 E) pins σ H s) (mk : Heap.MadeExcOf s.heap h' e (.ref C) args) (q : E (.ref C) none H) :
    (cxOf (CX1 P w) P w K mg base N qual scope f cd A outer s0 H0 E).xe (.ref e) { s with heap := h' } := by
  have hf : (envOfC qual scope s0.heap.objs.size f cd).frame = some s0.heap.objs.size := rfl
  obtain ⟨t, he, ht, _⟩ := mk.there
  have fr : h'.FunFrames base (envOfC qual scope s0.heap.objs.size f cd :: outer) := frames_un (fun b _ o ho => ⟨o.slots, mk.keeps b o ho⟩) I.stack
  have un1 : Un (frs (envOfC qual scope s0.heap.objs.size f cd :: outer)) [] H0 H s0.heap h' := (Un.mono I.base (fun b hb => by rw [frs_cons hf]; exact List.mem_cons_of_mem _ hb) (fun b hb => hb)).trans (Un.kept mk.keeps)
  have none_of : ∀ b, s.heap.get? b = none → s0.heap.get? b = none ∧ H b = none := fun b hb => by
    constructor
    · cases z : s0.heap.get? b with
      | none => rfl
      | some o =>
        obtain ⟨o', z'⟩ := I.base.there b o z (fun z => nomatch z)
        rw [hb] at z'; cases z'
    · cases z : H b with
      | none => rfl
      | some o =>
        obtain ⟨u, hu⟩ := (I.hok b o z).get
        rw [hb] at hu; cases hu
  refine leave_first (b0 := base) (s := { s with heap := h' }) (oe := { cls := .ref C, data := .fields #[.ref t, .none, .none, .none, .bool false, .none] }) I.ok.frames fr hf he rfl rfl (a0 := .ref t) rfl fun h2 T lf tr hT => ?_
  have hT' : s.heap.get? T = none := by
    cases z : s.heap.get? T with
    | none => rfl
    | some o =>
      have := mk.keeps T o z
      have hT : h'.get? T = none := hT
      rw [hT] at this; cases this
  have hL : s0.heap.get? s0.heap.objs.size = none := by
    cases z : s0.heap.get? s0.heap.objs.size with
    | none => rfl
    | some o => exact absurd (Heap.lt_size z) (Nat.lt_irrefl _)
  exact ⟨e, T, C, H, rfl, I.os, I.bare, un_left hf un1 lf hL (none_of e mk.new).1 (fun b hb => nomatch hb), hok_left (I.hok.kept mk.keeps) lf I.stkFree (none_of e mk.new).2 (fun b hb => nomatch hb), (none_of e mk.new).1, (none_of T hT').1, (none_of e mk.new).2, (none_of T hT').2, tr, q⟩
theorem pass1 : Passes (CX1 P w) (cxOf (CX1 P w) P w K mg base N qual scope f cd A outer s0 H0 E) E := by
  rintro pins σ H s e s' I ⟨ea, T, C, H', rfl, os, bare, un, hok, n1, n2, m1, m2, tr, q⟩
  have hf : (envOfC qual scope s0.heap.objs.size f cd).frame = some s0.heap.objs.size := rfl
  have un : Un (frs (envOfC qual scope s0.heap.objs.size f cd :: outer)) [] H H' s.heap s'.heap := un
  have fr : s'.heap.FunFrames base (envOfC qual scope s0.heap.objs.size f cd :: outer) := frames_un (fun b hb o ho => un.any ho (I.stkFree b hb) (fun z => nomatch z)) I.stack
  have un1 : Un (frs (envOfC qual scope s0.heap.objs.size f cd :: outer)) [] H0 H' s0.heap s'.heap := (Un.mono I.base (fun b hb => by rw [frs_cons hf]; exact List.mem_cons_of_mem _ hb) (fun b hb => hb)).trans un
  have none_of : ∀ b, s.heap.get? b = none → s0.heap.get? b = none := fun b hb => by
    cases z : s0.heap.get? b with
    | none => rfl
    | some o =>
      obtain ⟨o', z'⟩ := I.base.there b o z (fun z => nomatch z)
      rw [hb] at z'; cases z'
  have hL : s0.heap.get? s0.heap.objs.size = none := by
    cases z : s0.heap.get? s0.heap.objs.size with
    | none => rfl
    | some o => exact absurd (Heap.lt_size z) (Nat.lt_irrefl _)
  have frN : ∀ b ∈ frs (envOfC qual scope s0.heap.objs.size f cd :: outer), H' b = none := fun b hb => by
    obtain ⟨_, o, ho, _⟩ := (show s.heap.FunFrames base (envOfC qual scope s0.heap.objs.size f cd :: outer) from I.stack).mem hb
    exact un.free b o ho (I.stkFree b hb) (fun z => nomatch z)
  refine leave_next (b0 := base) I.ok.frames fr hf tr fun h2 T' lf tr' hT => ?_
  have x1 : ∀ b ∈ [T], s0.heap.get? b = none := fun b hb => by rw [List.mem_singleton.mp hb]; exact none_of T n2
  have x2 : ∀ b ∈ [T], H' b = none := fun b hb => by rw [List.mem_singleton.mp hb]; exact m2
  refine ⟨ea, T', C, H', rfl, os.trans I.os, bare, un_left hf un1 lf hL (none_of ea n1) x1, hok_left hok lf frN m1 x2, none_of ea n1, ?_, m1, ?_, tr', q⟩
  · rcases hT with rfl | hT
    · exact none_of _ n2
    · cases z : s0.heap.get? T' with
      | none => rfl
      | some o =>
        obtain ⟨o', z'⟩ := un1.there T' o z (fun z => nomatch z)
        rw [hT] at z'; cases z'
  · rcases hT with rfl | hT
    · exact m2
    · cases z : H' T' with
      | none => rfl
      | some o =>
        obtain ⟨u, hu⟩ := (hok T' o z).get
        rw [hT] at hu; cases hu
end
structure EC (K : PySem.W.Frag) (C : Addr) : Prop where
  ex : ∃ nm q N bs bm hdct sn sub ab col dd k0 k1 k2 k3 k5 B newId initId bmB mN, ExcBaseFacts B newId initId bmB ∧ bm.contains (.type "BaseException") = true ∧ mN ("__init__" : Str) = none ∧
    ∀ h, K.In h → h.get? C = some (excClassObj nm q C N bs bm hdct sn sub ab col dd k0 k1 k2 k3 k5 newId) ∧ h.Ns N mN ∧ OwnTail h bmB bm
def Rz (X : Cx) (E : XK) : Prop := ∀ (pins : List (Addr × Obj)) (σ : St) (H : Hp) (s : Shared) (h' : Heap) (e C : Addr) (args : List Value), Inv X pins σ H s → Heap.MadeExcOf s.heap h' e (.ref C) args → E (.ref C) none H → X.xe (.ref e) { s with heap := h' }
theorem rz1 {P : Program} {w : World} {K : PySem.W.Frag} {mg : Str → Option Value} {base : Heap} {N : List Str} {qual : Str} {scope : Scope} {f : Addr} {cd : Value} {A : Around} {outer : List Env} {s0 : Shared} {H0 : Hp} {E : XK} :
    Rz (cxOf (CX1 P w) P w K mg base N qual scope f cd A outer s0 H0 E) E := fun _ _ _ _ _ _ _ _ I mk q => raise1 I mk q
theorem ps_raise {X : Cx} {E : XK} {C : Addr} {x t : Str} {np p cpos pos : Pos} {j : Nat} (hz : Rz X E) (ec : EC X.K C) (hc : X.calm = true) (hg : Gl X x) (hm : X.mg x = some (.ref C))
    (hs : backTo cpos (starEach [.Constant (.str t) j p] X.env) = [(false, eval (.Constant (.str t) j p) X.env)] := by rfl) (hdb : (x == ("__debug__" : Str)) = false := by decide) :
    PS X (.Raise (some (.Call (.Name x np) [.Constant (.str t) j p] [] cpos)) none pos) (fun _ _ H => E (.ref C) none H) := by
  intro pins s σ H D I h
  obtain ⟨nm, q, N, bs, bm, hdct, sn, sub, ab, col, dd, k0, k1, k2, k3, k5, B, newId, initId, bmB, mN, F, hb, hni, hK⟩ := ec.ex
  refine wpAny_Raise_call_subT (nm := nm) (q := q) (N := N) (bs := bs) (hdct := hdct) (sn := sn) (sub := sub) (ab := ab) (col := col) (dd := dd) (k0 := k0) (k1 := k1) (k2 := k2) (k3 := k3) (k5 := k5) F hb (I.ok.hd hc) (by rw [hs]; rfl) hni (ld_glob I hg hm ⟨rfl, ?_⟩ hdb)
  rw [hs]
  refine Calls.evalArgs_plain (Calls.spliced_cons (Calls.Constant_str (Calls.spliced_nil ?_)))
  have I1 : Inv X pins σ H { s with toks := s.toks + 1 } := I.tok _
  obtain ⟨h1, h2, h3⟩ := hK _ I1.kIn
  exact ⟨rfl, (by show 1 ≤ sizeLine; decide), h1, h2, h3, fun h' e mk => hz pins σ H _ h' e C _ I1 mk h⟩
theorem Fun.ok1 {P : Program} {w : World} {K : PySem.W.Frag} {mg : Str → Option Value} {base : Heap} {x qual : Str} {st : Stmt} {f : Addr} {fd : FuncData} {N ps : List Str} {k : Nat} {sp : Sp} (F : Fun K x qual st f fd) (S : FnScope N ps (defScope st)) (len : ∀ vs H Q E, sp vs H Q E → vs.length = ps.length)
    (hbody : ∀ (cdv : Value) (A : Around) (outer : List Env) (s : Shared) (H : Hp) (vs : List V) (Q : VK) (E : XK), Room k (A.deeper (envOfC qual (defScope st) s.heap.objs.size f cdv)) → sp vs H Q E →
      ∃ t, PSs (cxOf (CX1 P w) P w K mg base N qual (defScope st) f cdv A outer s H E) (defBody st) t ∧ t { nx := fun _ H' => Q .non H', rt := Q } (start N vs) H) : FnOk P w K mg base (CX1 P w) (k + 1) f fd ps sp := by
  obtain ⟨oc, od, kV, doc, pm, an, cdv, ct, osl, rfl, lk, hcd⟩ := F.ex
  exact fn_of lk hcd S len fun A outer s H vs Q E hr hsp => hbody cdv A outer s H vs Q E hr hsp
def Cal1 (P : Program) (w : World) (K : PySem.W.Frag) (mg : Str → Option Value) (base : Heap) (x : Str) (k : Nat) (ps : List Str) (sp : Sp) : Prop :=
  ∃ f fd, FnOk P w K mg base (CX1 P w) k f fd ps sp ∧ Binds K fd ps [] ∧ PySem.W.keepIn K (.ref f) = true ∧ mg x = some (.ref f)
theorem pe_cal1 {X : Cx} {E : XK} {x : Str} {k k' : Nat} {ps : List Str} {sp : Sp} {e : Expr} {es : List Expr} {t : TA} {p pos : Pos} (C : Cal1 X.prog X.w X.K X.mg X.base x k ps sp) (hx : Passes (CX1 X.prog X.w) X E) (hr : Room k' X.A) (hk : k ≤ k') (hg : Gl X x) (ha : PA X (e :: es) t)
    (hdb : (x == ("__debug__" : Str)) = false := by decide) (he : starEach (e :: es) X.env = (false, eval e X.env) :: starEach es X.env := by rfl) (hpl : (backTo pos (starEach es X.env)).any (·.1) = false := by rfl) :
    PE X (.Call (.Name x p) (e :: es) [] pos) (tCall sp [] E t) := by
  obtain ⟨f, fd, F, b, kp, m⟩ := C
  exact pe_call F (hr.mono hk) hg m kp b .nil hx ha hdb he hpl
def Fresh (X : Cx) (pins : List (Addr × Obj)) (a : Addr) : Prop := X.s₀.heap.get? a = none ∧ a ≠ X.env.locals ∧ (∀ x c, X.env.cells.lookup x = some c → c ≠ a) ∧ ∀ p ∈ X.pn ++ pins, p.1 ≠ a
def xTry (X : Cx) (pins0 : List (Addr × Obj)) (Cat : St → Addr → Hp → Prop) : Cx :=
  { X with pn := X.pn ++ pins0, xe := fun e s' => ∃ ea T C H' σ, e = Value.ref ea ∧ Inv X pins0 σ H' s' ∧ Trc s'.heap ea T (.ref C) ∧ H' ea = none ∧ H' T = none ∧ Fresh X pins0 ea ∧ Fresh X pins0 T ∧ Cat σ C H' }
section
variable {X : Cx} {pins0 pins : List (Addr × Obj)} {Cat : St → Addr → Hp → Prop} {σ : St} {H : Hp} {s : Shared}
theorem inv_try (I : Inv X pins0 σ H s) : Inv (xTry X pins0 Cat) [] σ H s :=
  ⟨⟨I.ok.mod, I.ok.kind, I.ok.glob, I.ok.blt, I.ok.above, I.ok.inj, I.ok.has, I.ok.cab, I.ok.hd, I.ok.frames, I.ok.stk, I.ok.exf, I.ok.bs, I.ok.bsz, I.ok.noex, I.ok.exfs, I.ok.funs, I.ok.frf⟩, I.os, I.bare, I.base, I.loc, I.cell, I.free, I.freeC, fun p hp => I.pin p (by
    have hp : p ∈ (X.pn ++ pins0) ++ [] := hp
    rwa [List.append_nil] at hp), I.hok, I.len⟩
theorem inv_untry (I : Inv (xTry X pins0 Cat) pins σ H s) : Inv X pins0 σ H s :=
  ⟨⟨I.ok.mod, I.ok.kind, I.ok.glob, I.ok.blt, I.ok.above, I.ok.inj, I.ok.has, I.ok.cab, I.ok.hd, I.ok.frames, I.ok.stk, I.ok.exf, I.ok.bs, I.ok.bsz, I.ok.noex, I.ok.exfs, I.ok.funs, I.ok.frf⟩, I.os, I.bare, I.base, I.loc, I.cell, I.free, I.freeC, fun p hp => I.pin p (show p ∈ (X.pn ++ pins0) ++ pins from List.mem_append_left _ hp), I.hok, I.len⟩
theorem Inv.fresh_of (I : Inv X pins σ H s) {a : Addr} (hx : X.ex = []) (h : s.heap.get? a = none) : Fresh X pins a := by
  refine ⟨?_, fun z => ?_, fun x c e z => ?_, fun p hp z => ?_⟩
  · cases q : X.s₀.heap.get? a with
    | none => rfl
    | some o =>
      obtain ⟨o', q'⟩ := I.base.there a o q (by rw [hx]; exact fun z => nomatch z)
      rw [h] at q'; cases q'
  · obtain ⟨m, ⟨o, _, _, ho, _⟩, _⟩ := I.loc
    rw [← z, h] at ho; cases ho
  · obtain ⟨v, o, ho, _⟩ := I.cell x c e
    rw [z, h] at ho; cases ho
  · have := (I.pin p hp).1
    rw [z, h] at this; cases this
def tCallT (sp : Sp) (Cat : St → Addr → Hp → Prop) (t : TA) : TE := fun σ H Q => t σ H fun vs H1 => sp vs H1 Q fun v _ H' => ∀ C, v = Value.ref C → Cat σ C H'
theorem pe_calT {x : Str} {k k' : Nat} {ps : List Str} {sp : Sp} {e : Expr} {es : List Expr} {t : TA} {p pos : Pos} (C : Cal1 X.prog X.w X.K X.mg X.base x k ps sp) (hx : X.ex = []) (hr : Room k' X.A) (hk : k ≤ k') (hg : Gl X x) (ha : PA (xTry X pins0 Cat) (e :: es) t)
    (hdb : (x == ("__debug__" : Str)) = false := by decide) (he : starEach (e :: es) X.env = (false, eval e X.env) :: starEach es X.env := by rfl) (hpl : (backTo pos (starEach es X.env)).any (·.1) = false := by rfl) :
    PE (xTry X pins0 Cat) (.Call (.Name x p) (e :: es) [] pos) (tCallT sp Cat t) := by
  obtain ⟨f, fd, F, b, kp, m⟩ := C
  intro pins s σ H Q I h
  refine wpAny_Call_Name_kw (ld_glob I hg m ?_ hdb)
  refine PySem.W.callWith_K (h₀ := X.base) I.ok.mod.kin kp (thn (ha pos pins s σ H _ I h) fun us s1 ⟨vs, H1, I1, r, q⟩ => ⟨I1.kIn, ?_⟩) he hpl
  have r2 : Vals vs (us ++ []) := by rw [List.append_nil]; exact r
  have hl : (us ++ []).length = ps.length := by rw [← r2.length]; exact F.len _ _ _ _ q
  refine wpAny_call (codeAny_mono (F.run X.A X.stack s1 H1 ⟨us, []⟩ (us ++ []) vs Q _ (hr.mono hk) I1.env0 (b s1 us I1.kIn hl) r2 q) fun r s' hq => ?_)
  cases r with
  | ok fl =>
    cases fl with
    | ret u => exact I1.after hq
    | next => exact False.elim hq
    | brk => exact False.elim hq
    | cont => exact False.elim hq
  | error e =>
    obtain ⟨ea, T, C, H', rfl, os, bare, un, hok, n1, n2, m1, m2, tr, q⟩ := hq
    have J := inv_untry I1
    exact ⟨ea, T, C, H', σ, rfl, J.call' os un hok bare (fun b z => nomatch z), tr, m1, m2, J.fresh_of hx n1, J.fresh_of hx n2, q C rfl⟩
end
section
variable {M : Model} {A : Around} {E : Value → Shared → Prop} {s : Shared}
theorem note_step {b0 : Heap} {env : Env} {outer : List Env} {L e T : Addr} {cls : Value} {Q : Unit → Shared → Prop} (hfr : A.frames = some (env :: outer)) (hl : s.heap.FunFrames b0 (env :: outer)) (hf : env.frame = some L) (ht : Trc s.heap e T cls)
    (h : ∀ h' T', Lft (env :: outer) e [T] s.heap h' → Trc h' e T' cls → (T' = T ∨ s.heap.get? T' = none) → Q () { s with heap := h' }) :
    wpAny M A (noteFrame (.ref e) env) (fun _ s2 => wpAny M A (setFlight (.ref e) none) Q E s2) E s := by
  obtain ⟨oe, vs, oT, ts, a0, h1, h2, h3, h4, h6, h7, h8, h9⟩ := ht
  refine wpAny_noteFrame_onW (a0 := a0) (base := lack s.heap (e :: [T] ++ (env :: outer).filterMap (·.frame))) (cls := cls) hfr (frames_lack (fun b hb => List.mem_append_right _ hb) hl) hf ⟨oe, vs, T, oT, ts, h1, h2, h3, h4, lack_in (by simp), h6, h7, h8, h9⟩ (lack_stays _ _) (lack_in (by simp)) fun h1' N => ?_
  obtain ⟨k1, k2, k3, k4⟩ := N
  refine wpAny_setFlight_noneW (s := { s with heap := h1' }) k1 k2 k3 fun h2' j1 j2 j3 j4 => ?_
  have L' : Heap.LeftW (lack s.heap (e :: [T] ++ (env :: outer).filterMap (·.frame))) (env :: outer) e cls a0 s.heap h2' := ⟨j1, j2, j3, fun b o hb hn => by
    obtain ⟨sl, q⟩ := k4 b o hb hn
    exact ⟨sl, j4 b _ q hn⟩⟩
  obtain ⟨l', T', t, z⟩ := lft_of (base := b0) hl L' (by rw [h1]; simp)
  refine h h2' T' l' t ?_
  rcases z with z | z
  · exact .inl (by simpa using z)
  · exact .inr z
end
def excV (a C : Addr) : HO := .ext fun h => ∃ o vs, h.get? a = some o ∧ o.cls = .ref C ∧ o.data = .fields vs
structure Und (K : PySem.W.Frag) (C P : Addr) : Prop where
  ex : ∃ nm q N bs bm hdct sn sub ab col dd k0 k1 k2 k3 k5 newId nm' q' N' bs' bm' hdct' sn' sub' ab' col' dd' k0' k1' k2' k3' k5' newId', (Value.ref C :: bm).contains (.ref P) = true ∧ bm'.contains (.type "BaseException") = true ∧
    ∀ h, K.In h → h.get? C = some (excClassObj nm q C N bs bm hdct sn sub ab col dd k0 k1 k2 k3 k5 newId) ∧ h.get? P = some (excClassObj nm' q' P N' bs' bm' hdct' sn' sub' ab' col' dd' k0' k1' k2' k3' k5' newId')
theorem exc_match {M : Model} {A : Around} {E : Value → Shared → Prop} {K : PySem.W.Frag} {C P e : Addr} {oe : Obj} {s : Shared} {Q : Bool → Shared → Prop} (u : Und K C P) (hk : K.In s.heap) (he : s.heap.get? e = some oe) (hcls : oe.cls = .ref C) (hq : Q true s) : wpAny M A (excMatches (.ref e) (.ref P)) Q E s := by
  obtain ⟨nm, q, N, bs, bm, hdct, sn, sub, ab, col, dd, k0, k1, k2, k3, k5, newId, nm', q', N', bs', bm', hdct', sn', sub', ab', col', dd', k0', k1', k2', k3', k5', newId', h1, h2, h3⟩ := u.ex
  obtain ⟨hC, hP⟩ := h3 _ hk
  obtain ⟨h, g, d, t, os⟩ := s
  have hcB : (Value.ref P :: bm').contains (.type "BaseException") = true := by rw [List.contains_cons, h2, Bool.or_true]
  have f := tc_notTuple
  unfold excMatches
  repeat (first | (with_reducible refine wpAny_loadPart_at he ?_; rw [hcls]) | with_reducible refine wpAny_loadPart_at hP ?_ | (with_reducible refine wpAny_isSubtype_exc hP ?_; rw [hcB]) | (with_reducible refine wpAny_isSubtype_exc hC ?_; rw [h1]) | wp_step)
  exact hq
section
variable {X : Cx} {pins : List (Addr × Obj)} {σ : St} {H : Hp} {s : Shared}
theorem catch_in {ea T C : Addr} (I : Inv X pins σ H s) (tr : Trc s.heap ea T (.ref C)) (m1 : H ea = none) (f1 : Fresh X pins ea) : Inv X pins σ (upd H ea (excV ea C)) s := by
  obtain ⟨oe, vs, oT, ts, a0, h1, h2, h3, h4, h6, h7, h8, h9⟩ := tr
  exact I.adopt2 m1 (fun u z => by rw [f1.1] at z; cases z) f1.2.1 f1.2.2.1 f1.2.2.2 ⟨⟨oe, vs, h1, h2.1, h3⟩, ⟨oe, h1⟩, fun g1 g2 ⟨o, ws, z1, z2, z3⟩ k => ⟨o, ws, k o z1, z2, z3⟩⟩
theorem catch_on {ea C : Addr} {x : List Addr} {h' : Heap} (I : Inv X pins σ (upd H ea (excV ea C)) s) (f1 : Fresh X pins ea) (fx : ∀ T ∈ x, Fresh X pins T ∧ upd H ea (excV ea C) T = none) (lf : Lft X.stack ea x s.heap h') (hea : ∃ o vs, h'.get? ea = some o ∧ o.cls = .ref C ∧ o.data = .fields vs) :
    Inv X pins σ (upd H ea (excV ea C)) { s with heap := h' } := by
  have tk : ∀ b, upd H ea (excV ea C) b = none → b ≠ ea := fun b hb z => by rw [z, upd_same] at hb; cases hb
  have old : ∀ b o, X.s₀.heap.get? b = some o → b ≠ ea ∧ b ∉ x ∧ b ≠ X.env.locals := fun b o q => by
    refine ⟨fun z => ?_, fun z => ?_, fun z => ?_⟩
    · rw [z, f1.1] at q; cases q
    · rw [(fx b z).1.1] at q; cases q
    · have h1 := Heap.lt_size q
      rw [z] at h1
      exact absurd I.ok.above (Nat.not_le.mpr h1)
  have one : ∀ b o, b ≠ ea → b ∉ x → s.heap.get? b = some o → ∃ sl, h'.get? b = some { o with slots := sl } := fun b o z1 z2 q => by
    by_cases hb : b ∈ frs X.stack
    · exact lf.slot b o hb q
    · exact ⟨o.slots, lf.keep b o hb z1 z2 q⟩
  have nstk : ∀ b, b ≠ X.env.locals → b ∉ X.fs → b ∉ frs X.stack := fun b z1 z2 z => by
    rcases List.mem_cons.mp (I.stkSub b z) with z | z
    · exact z1 z
    · exact z2 z
  have cl : ∀ x' c, X.env.cells.lookup x' = some c → ∀ v, s.heap.IsCell c v → h'.IsCell c v := fun x' c e v ⟨o, ho, hd⟩ => by
    obtain ⟨sl, z⟩ := one c o (f1.2.2.1 x' c e) (fun z => (fx c z).1.2.2.1 x' c e rfl) ho
    exact ⟨_, z, hd⟩
  refine ⟨I.ok, I.os, I.bare, ⟨fun b o q n hb hx => ?_, fun b o q n hb hx => ?_, I.base.free, fun b o q hx => ?_, I.base.tups, I.base.frzs, I.base.tbls⟩, ?_, fun x' c e => ?_, I.free, I.freeC, fun p hp => ?_, fun b u q => ?_, I.len⟩
  · exact lf.keep b o (nstk b (old b o q).2.2 hb) (old b o q).1 (old b o q).2.1 (I.base.keep b o q n hb hx)
  · obtain ⟨sl, z⟩ := I.base.slot b o q n hb hx
    obtain ⟨sl', z'⟩ := one b _ (old b o q).1 (old b o q).2.1 z
    exact ⟨sl', z'⟩
  · obtain ⟨o', z⟩ := I.base.there b o q hx
    obtain ⟨sl', z'⟩ := one b _ (old b o q).1 (old b o q).2.1 z
    exact ⟨_, z'⟩
  · obtain ⟨m, ⟨o, es, ep, ho, hd, r⟩, hl⟩ := I.loc
    obtain ⟨sl, z⟩ := one X.env.locals o (Ne.symm f1.2.1) (fun z => (fx _ z).1.2.1 rfl) ho
    refine ⟨m, ⟨_, es, ep, z, hd, r⟩, fun i y v e1 e2 e3 => ?_⟩
    obtain ⟨u, ru, l⟩ := hl i y v e1 e2 e3
    refine ⟨u, ru, ?_⟩
    rcases l with l | ⟨k, c, e, z⟩
    · exact .inl l
    · exact .inr ⟨k, c, e, cl y c e _ z⟩
  · obtain ⟨v, z⟩ := I.cell x' c e
    exact ⟨v, cl x' c e v z⟩
  · obtain ⟨z1, z2, z3, z4, z5⟩ := I.pin p hp
    exact ⟨lf.keep _ _ (nstk _ z3 z4) (f1.2.2.2 p hp) (fun z => (fx _ z).1.2.2.2 p hp rfl) z1, z2, z3, z4, z5⟩
  · by_cases z1 : b = ea
    · subst z1
      rw [upd_same] at q; cases q
      obtain ⟨o, vs, y1, y2, y3⟩ := hea
      exact ⟨⟨o, vs, y1, y2, y3⟩, ⟨o, y1⟩, fun g1 g2 ⟨o, ws, y1, y2, y3⟩ k => ⟨o, ws, k o y1, y2, y3⟩⟩
    · have tr : ∀ c v, upd H ea (excV ea C) c = some v → c ≠ ea → ∀ o, s.heap.get? c = some o → h'.get? c = some o := fun c v hc z o r => lf.keep c o (fun y => by rw [I.stkFree c y] at hc; cases hc) z (fun y => by rw [(fx c y).2] at hc; cases hc) r
      refine (I.hok b u q).stay (fun c v hc r => ?_) (fun _ r => r) fun _ _ r => r
      rcases hc with rfl | hc
      · exact tr c u q z1 v r
      · refine tr c _ hc (fun z => ?_) v r
        rw [z, upd_same] at hc; cases hc
end
section
variable {M : Model} {A : Around} {E : Value → Shared → Prop} {s : Shared}
theorem land_step {b0 : Heap} {l : List Env} {e T : Addr} {cls : Value} {Q : Unit → Shared → Prop} (hl : s.heap.FunFrames b0 l) (ht : Trc s.heap e T cls)
    (h : ∀ h' T', Lft l e [T] s.heap h' → Trc h' e T' cls → (T' = T ∨ s.heap.get? T' = none) → Q () { s with heap := h' }) : wpAny M A (setFlight (.ref e) none) Q E s := by
  obtain ⟨oe, vs, oT, ts, a0, h1, h2, h3, h4, h6, h7, h8, h9⟩ := ht
  refine wpAny_setFlight_noneW (base := lack s.heap (e :: [T] ++ l.filterMap (·.frame))) (cls := cls) (a0 := a0) (fl := .none) (lack_stays _ _) (frames_lack (fun b hb => List.mem_append_right _ hb) hl) ⟨oe, vs, T, oT, ts, h1, h2, h3, h4, lack_in (by simp), h6, h7, h8, h9⟩ fun h2' j1 j2 j3 j4 => ?_
  have L' : Heap.LeftW (lack s.heap (e :: [T] ++ l.filterMap (·.frame))) l e cls a0 s.heap h2' := ⟨j1, j2, j3, fun b o hb hn => ⟨o.slots, j4 b o hb hn⟩⟩
  obtain ⟨l', T', t, z⟩ := lft_of (base := b0) hl L' (by rw [h1]; simp)
  refine h h2' T' l' t ?_
  rcases z with z | z
  · exact .inl (by simpa using z)
  · exact .inr z
end
section
variable {X : Cx} {pins : List (Addr × Obj)} {σ : St} {H : Hp} {s : Shared}
theorem Inv.unset {i : Nat} {n : Str} {v : Option Value} {m : Str → Option Value} {h' : Heap} {t' : Nat} (I : Inv X pins σ H s) (hN : X.N.Nodup) (hi : X.N[i]? = some n) (hl : ∀ (i : Nat) (x : Str) (v : V), X.N[i]? = some x → σ[i]? = some (some v) → Vis X.env.scope x → ∃ u, RelV v u ∧ Look X.env s.heap m x u)
    (hn : h'.Ns X.env.locals (fun x => if x = n then v else m x)) (hs : Heap.SameBut X.env.locals s.heap h') : Inv X pins (σ.set i none) H { s with heap := h', toks := t' } := by
  have cne : ∀ x c, X.env.cells.lookup x = some c → c ≠ X.env.locals := fun x c e z => by
    obtain ⟨v, o, ho, hd⟩ := I.cell x c e
    obtain ⟨m, ⟨o', es, ep, ho', hd', _⟩, _⟩ := I.loc
    rw [z, ho'] at ho; cases ho
    rw [hd'] at hd; cases hd
  have old : ∀ b o, X.s₀.heap.get? b = some o → b ≠ X.env.locals := fun b o q z => by
    have h1 := Heap.lt_size q
    rw [z] at h1
    exact absurd I.ok.above (Nat.not_le.mpr h1)
  refine ⟨I.ok, I.os, I.bare, ⟨fun b o q n hb hx => hs.extBut b o (old b o q) (I.base.keep b o q n hb hx), fun b o q n hb hx => ?_, I.base.free, fun b o q hx => ?_, I.base.tups, I.base.frzs, I.base.tbls⟩, ⟨_, hn, fun j y w e1 e2 e3 => ?_⟩, fun x c e => ?_, I.free, I.freeC, fun p hp => ?_, fun b u q => ?_, ?_⟩
  · obtain ⟨sl, z⟩ := I.base.slot b o q n hb hx
    exact ⟨sl, hs.extBut b _ (old b o q) z⟩
  · obtain ⟨o', z⟩ := I.base.there b o q hx
    exact ⟨o', hs.extBut b _ (old b o q) z⟩
  · by_cases hj : j = i
    · subst hj
      rw [List.getElem?_set_self'] at e2
      cases z : σ[j]? with
      | none => rw [z] at e2; simp at e2
      | some _ => rw [z] at e2; simp at e2
    · rw [List.getElem?_set_ne (Ne.symm hj)] at e2
      obtain ⟨u, ru, l⟩ := hl j y w e1 e2 e3
      refine ⟨u, ru, ?_⟩
      rcases l with ⟨k, l⟩ | ⟨k, c, e, o, ho, hd⟩
      · refine .inl ⟨k, ?_⟩
        have : y ≠ n := fun z => hj (nodup_ix hN e1 (by rw [z]; exact hi))
        show (if y = n then v else m y) = some u
        rw [if_neg this]; exact l
      · exact .inr ⟨k, c, e, o, hs.extBut c o (cne y c e) ho, hd⟩
  · obtain ⟨v, o, ho, hd⟩ := I.cell x c e
    exact ⟨v, o, hs.extBut c o (cne x c e) ho, hd⟩
  · obtain ⟨z1, z2, z3, z4, z5⟩ := I.pin p hp
    exact ⟨hs.extBut _ _ z3 z1, z2, z3, z4, z5⟩
  · refine (I.hok b u q).stay (fun c v hc r => hs.extBut c v (fun z => ?_) r) (fun _ r => r) fun _ _ r => r
    rcases hc with rfl | hc
    · rw [z, I.free] at q; cases q
    · rw [z, I.free] at hc; cases hc
  · rw [List.length_set]; exact I.len
def xMark (X : Cx) (v : Value) : Cx := { X with A := X.A.mark (some v), calm := false, xe := fun _ _ => False }
theorem inv_mark {v : Value} (I : Inv X pins σ H s) : Inv (xMark X v) pins σ H s :=
  ⟨⟨I.ok.mod, I.ok.kind, I.ok.glob, I.ok.blt, I.ok.above, I.ok.inj, I.ok.has, I.ok.cab, (fun z => absurd (show false = true from z) Bool.false_ne_true), I.ok.frames, I.ok.stk, I.ok.exf, I.ok.bs, I.ok.bsz, I.ok.noex, I.ok.exfs, I.ok.funs, I.ok.frf⟩, I.os, I.bare, I.base, I.loc, I.cell, I.free, I.freeC, I.pin, I.hok, I.len⟩
theorem inv_unmark {v : Value} (c : X.calm = true → X.A.handled = none) (fr : X.A.frames = some X.stack) (I : Inv (xMark X v) pins σ H s) : Inv X pins σ H s :=
  ⟨⟨I.ok.mod, I.ok.kind, I.ok.glob, I.ok.blt, I.ok.above, I.ok.inj, I.ok.has, I.ok.cab, c, fr, I.ok.stk, I.ok.exf, I.ok.bs, I.ok.bsz, I.ok.noex, I.ok.exfs, I.ok.funs, I.ok.frf⟩, I.os, I.bare, I.base, I.loc, I.cell, I.free, I.freeC, I.pin, I.hok, I.len⟩
end
theorem Trc.there {h : Heap} {e T C : Addr} (t : Trc h e T (.ref C)) : ∃ o vs, h.get? e = some o ∧ o.cls = .ref C ∧ o.data = .fields vs := by
  obtain ⟨oe, vs, oT, ts, a0, h1, h2, h3, _⟩ := t
  exact ⟨oe, vs, h1, h2.1, h3⟩
theorem Trc.ne {h : Heap} {e T : Addr} {c : Value} (t : Trc h e T c) : T ≠ e := by
  obtain ⟨oe, vs, oT, ts, a0, h1, h2, h3, h4, h6, _⟩ := t
  exact h6
def sTry (K : PySem.W.Frag) (Pa : Addr) (iE : Nat) (tb : (St → Addr → Hp → Prop) → TS) (ts : TS) : TS := fun D σ H =>
  tb (fun σ' C H' => Und K C Pa ∧ ∀ ea, H' ea = none → ts { nx := fun σ2 H2 => D.nx (σ2.set iE none) H2, rt := fun _ _ => False } (σ'.set iE (some (.ref ea))) (upd H' ea (excV ea C))) D σ H
theorem ps_try {X : Cx} {body : List Stmt} {tb : (St → Addr → Hp → Prop) → TS} {ts : TS} {iE : Nat} {n x : Str} {Pa : Addr} {b₀ : Stmt} {suite : List Stmt} {tp hpos pos : Pos} (hx : X.ex = []) (hst : X.stack = X.env :: X.outer) (hfr : X.env.frame = some X.env.locals)
    (hg : Gl X x) (hm : X.mg x = some (.ref Pa)) (hN : X.N.Nodup) (hi : X.N[iE]? = some n) (hl : X.env.scope.names.lookup n = some .local) (hb : ∀ pins0 Cat, PSs (xTry X pins0 Cat) body (tb Cat)) (hs : ∀ v, PSs (xMark X v) (b₀ :: suite) ts) (hdb : (x == ("__debug__" : Str)) = false := by decide) :
    PS X (.Try body [.ExceptHandler (some (.Name x tp)) (some n) (b₀ :: suite) hpos] [] [] pos) (sTry X.K Pa iE tb ts) := by
  intro pins s σ H D I h
  refine wpAny_Try_except (wpAny_mono (hb pins _ [] s σ H D (inv_try I) h) (fun f s1 q => ?_) (fun e s1 q => ?_))
  · cases f with
    | next => obtain ⟨σ', H', I', q⟩ := q; exact wpAny_execs_nil ⟨σ', H', inv_untry I', q⟩
    | brk => obtain ⟨σ', H', I', q⟩ := q; exact ⟨σ', H', inv_untry I', q⟩
    | cont => obtain ⟨σ', H', I', q⟩ := q; exact ⟨σ', H', inv_untry I', q⟩
    | ret u => obtain ⟨v, σ', H', I', r, q⟩ := q; exact ⟨v, σ', H', inv_untry I', r, q⟩
  · obtain ⟨ea, T, C, H', σ', rfl, J, tr, m1, m2, f1, f2, und, cat⟩ := q
    have fr : X.A.frames = some (X.env :: X.outer) := by rw [← hst]; exact J.ok.frames
    have stk : s1.heap.FunFrames X.base (X.env :: X.outer) := by rw [← hst]; exact J.stack
    refine note_step (b0 := X.base) fr stk hfr tr fun h2 T2 lf tr2 hT2 => ?_
    have J1 := catch_in J tr m1 f1
    have mT : upd H' ea (excV ea C) T = none := by rw [upd_ne tr.ne]; exact m2
    have J2 : Inv X pins σ' (upd H' ea (excV ea C)) { s1 with heap := h2 } := catch_on J1 f1 (x := [T]) (fun b hb => by rw [List.mem_singleton.mp hb]; exact ⟨f2, mT⟩) (by rw [hst]; exact lf) tr2.there
    have fT2 : Fresh X pins T2 ∧ upd H' ea (excV ea C) T2 = none := by
      rcases hT2 with rfl | z
      · exact ⟨f2, mT⟩
      · refine ⟨J1.fresh_of hx z, ?_⟩
        cases q : upd H' ea (excV ea C) T2 with
        | none => rfl
        | some o =>
          obtain ⟨u, hu⟩ := (J1.hok T2 o q).get
          rw [z] at hu; cases hu
    refine wpAny_handleBy_cons (codeAny_handlers_test ?_) (by intro q; cases q)
    refine ld_glob (X := xMark X (.ref ea)) (inv_mark J2) hg hm ?_ hdb
    obtain ⟨oe, vs, he2, hc2, _⟩ := tr2.there
    refine exc_match (s := { s1 with heap := h2 }) und J2.kIn he2 hc2 ?_
    show codeAny _ _ _ _ _
    refine codeAny_handlers_suite_as ?_
    have stk2 : h2.FunFrames X.base (X.env :: X.outer) := by rw [← hst]; exact J2.stack
    refine land_step (s := { s1 with heap := h2 }) (b0 := X.base) (l := X.env :: X.outer) stk2 tr2 fun h3 T3 lf3 tr3 hT3 => ?_
    have J3 : Inv X pins σ' (upd H' ea (excV ea C)) { s1 with heap := h3 } := catch_on (s := { s1 with heap := h2 }) J2 f1 (x := [T2]) (fun b hb => by rw [List.mem_singleton.mp hb]; exact fT2) (by rw [hst]; exact lf3) tr3.there
    refine store_ok (v := .ref ea) J3 hN hi (.inl hl) rfl (fun s4 J4 => ?_) (.inr hl)
    refine wpAny_mono (hs (.ref ea) pins s4 _ _ _ (inv_mark J4) (cat ea m1)) (fun f s5 q5 => ?_) (fun _ _ z => z.elim)
    cases f with
    | next =>
      obtain ⟨σ5, H5, I5, q5⟩ := q5
      have I5 := inv_unmark J.ok.hd J.ok.frames I5
      obtain ⟨m, hn, hlk⟩ := id I5.loc
      exact wpAny_nameGoes_keeps hl hn (by rw [I5.ok.kind]; rfl) fun h6 v hn6 hs6 => ⟨_, H5, I5.unset hN hi hlk hn6 hs6, q5⟩
    | brk => obtain ⟨_, _, _, q⟩ := q5; exact False.elim q
    | cont => obtain ⟨_, _, _, q⟩ := q5; exact False.elim q
    | ret u => obtain ⟨_, _, _, _, _, q⟩ := q5; exact False.elim q
end L2
set_option Elab.async false
set_option linter.all false
set_option maxRecDepth 100000
set_option maxHeartbeats 2000000
namespace L2
open PySem PySem.Spec PyProof.Rows
structure Lkp (M : Model) (h : Heap) (C : Addr) : Prop where
  ga : PySem.W.Looks M h (typeLookup (.ref C) "__getattribute__") (some (.builtin "BaseException.__getattribute__"))
  no : PySem.W.Looks M h (typeLookup (.ref C) "__getattr__") none
  cls : PySem.W.Looks M h (typeLookup (.ref C) "__class__") (some (.builtin "object.__class__"))
  be : PySem.W.Looks M h (isSubtype (.ref C) (.type "BaseException")) true
  obj : PySem.W.Looks M h (isSubtype (.ref C) (.type (".".intercalate ("object.__class__".cutAt '.').dropLast))) true
section
variable {prog : Program} {w : World} {A : Around} {E : Value → Shared → Prop} {h : Heap} {g : Array GenState} {d : Drawn} {t : Nat} {os : OsState} {a C : Addr} {o : Obj}
theorem cls_get {R : Result → Shared → Prop} (L : Lkp (model prog w) h C) (hx : h.get? a = some o) (hc : o.cls = .ref C) (hq : R (.ok (.ret (.ref C))) ⟨h, g, d, t, os⟩) :
    codeAny (model prog w) A (.call (.builtin "getset_descriptor.__get__") ⟨[.builtin "object.__class__", .ref a, .ref C], []⟩) R ⟨h, g, d, t, os⟩ := by
  have hT5 : (⟨h, g, d, t, os⟩ : Shared).TypeIs (.builtin "object.__class__") "getset_descriptor" := F.typeOf_object_class
  refine codeAny_call_builtin F.slot_gs_get.plain F.entry_gs_get (F.slot_gs_get.check _ _ _ _ _ _ _ _ hT5 (F.args_gs_get _ _ _) ?_)
  repeat (any_goals (first | assumption | (with_reducible refine wpAny_loadPart_at hx ?_; rw [hc]) | (refine L.obj _ _ _ _ (fun _ _ e => e) ?_) | wp_step))
  refine ⟨Code.quiet_builtin _ (by decide +kernel), codeAny_builtin F.entry_object_class ?_⟩
  repeat (any_goals (first | assumption | (with_reducible refine wpAny_loadPart_at hx ?_; rw [hc]) | wp_step))
theorem cls_check {M : Model} {nameV : Value} {Q : Unit → Shared → Prop} (L : Lkp M h C) (hx : h.get? a = some o) (hc : o.cls = .ref C) (hq : Q () ⟨h, g, d, t, os⟩) : wpAny M A (checkBuiltinCall "BaseException.__getattribute__" ⟨[.ref a, nameV], []⟩) Q E ⟨h, g, d, t, os⟩ := by
  have hk : builtinKind "BaseException.__getattribute__" = some .slot := by decide +kernel
  have hsplit : splitId "BaseException.__getattribute__" = some ("BaseException", "__getattribute__") := by decide +kernel
  have ha := F.args_bexc_ga (.ref a) nameV
  simp only [checkBuiltinCall, hk, hsplit]
  refine wpAny_bind ?_
  unfold isInstance
  repeat (first | (with_reducible refine wpAny_loadPart_at hx ?_; rw [hc]) | (refine L.be _ _ _ _ (fun _ _ e => e) ?_) | wp_step)
  exact hq
theorem cls_entry {tk : Tok} {Q : Fin → Shared → Prop} (L : Lkp (model prog w) h C) (hx : h.get? a = some o) (hc : o.cls = .ref C) (hq : Q (.done (.ret (.ref C))) ⟨h, g, d, t, os⟩) :
    wpAny (model prog w) A (Builtin.«object.__getattribute__» ⟨[.ref a, .str "__class__" tk], []⟩) Q E ⟨h, g, d, t, os⟩ := by
  have hT5 : (⟨h, g, d, t, os⟩ : Shared).TypeIs (.builtin "object.__class__") "getset_descriptor" := F.typeOf_object_class
  have f5 := F.typeOf_object_class
  have f6 := F.slot_gs_get.lookup
  have f7 := F.slot_gs_set.lookup
  repeat (any_goals (first | assumption | (with_reducible refine wpAny_loadPart_at hx ?_; rw [hc]) | (refine L.cls _ _ _ _ (fun _ _ e => e) ?_) | wp_step))
  refine cls_get L hx hc ?_
  repeat (any_goals (first | assumption | wp_step))
theorem cls_call {tk : Tok} {R : Result → Shared → Prop} (L : Lkp (model prog w) h C) {B : String} (hg : Slot B "__getattribute__" "BaseException.__getattribute__") (hx : h.get? a = some o) (hc : o.cls = .ref C) (hq : R (.ok (.ret (.ref C))) ⟨h, g, d, t, os⟩) :
    codeAny (model prog w) A (.call (.builtin "BaseException.__getattribute__") ⟨[.ref a, .str "__class__" tk], []⟩) R ⟨h, g, d, t, os⟩ :=
  codeAny_call_builtin hg.plain F.entry_bexc_ga (cls_check L hx hc (cls_entry L hx hc hq))
theorem cls_by {tk : Tok} {fill expr : Bool} {Q : Value → Shared → Prop} (L : Lkp (model prog w) h C) {B : String} (hg : Slot B "__getattribute__" "BaseException.__getattribute__") (hx : h.get? a = some o) (hc : o.cls = .ref C) (hq : Q (.ref C) ⟨h, g, d, t, os⟩) :
    wpAny (model prog w) A (getAttrBy (.ref a) (.str "__class__" tk) fill expr) Q E ⟨h, g, d, t, os⟩ := by
  have f3 := hg.bind (.ref a)
  have hx0 : (expr && onTheHeap (Value.builtin "BaseException.__getattribute__")) = false := by cases expr <;> rfl
  have hx2 : (Value.builtin "BaseException.__getattribute__" == Value.builtin "object.__getattribute__") = false := by decide +kernel
  have hx1 : (onTheHeap (Value.ref C) && Value.builtin "BaseException.__getattribute__" == Value.builtin "object.__getattribute__") = false := by rw [hx2]; rfl
  repeat (any_goals (first | assumption | (with_reducible refine wpAny_loadPart_at hx ?_; rw [hc]) | (refine L.ga _ _ _ _ (fun _ _ e => e) ?_) | (refine L.no _ _ _ _ (fun _ _ e => e) ?_) | wp_step))
  refine cls_call L hg hx hc ?_
  repeat (any_goals (first | assumption | wp_step))
theorem cls_attr {Q : Option Value → Shared → Prop} (L : Lkp (model prog w) h C) {B : String} (hg : Slot B "__getattribute__" "BaseException.__getattribute__") (hx : h.get? a = some o) (hc : o.cls = .ref C) (hq : Q (some (.ref C)) ⟨h, g, d, t + 1, os⟩) : wpAny (model prog w) A (getAttr? (.ref a) "__class__") Q E ⟨h, g, d, t, os⟩ := by
  unfold getAttr? getAttrBy?
  repeat (any_goals (first | assumption | with_reducible apply cls_by L hg hx hc | wp_step))
end
structure ExC (K : PySem.W.Frag) (C : Addr) : Prop where
  lk : ∀ (M : Model) (h : Heap), K.In h → Lkp M h C
  cl : (PySem.W.clsIn K C).isSome = true
  sl : ∃ B, Slot B "__getattribute__" "BaseException.__getattribute__"
theorem kitx_exc {K : PySem.W.Frag} {e C : Addr} (x : ExC K C) : PySem.W.KitX K (.ref e) (.ref C) (fun h => ∃ o, h.get? e = some o ∧ o.cls = .ref C) where
  ty := fun M h _ p => by
    obtain ⟨o, h1, h2⟩ := p
    exact h2 ▸ (PySem.W.Looks.ld h1).andThen .now
  it := fun _ _ X _ => by
    have hcD := x.cl
    unfold PySem.W.clsIn at hcD
    split at hcD
    · rename_i c' d' cd' sl' ho
      intro A' Q' E' s' k q
      unfold isType loadHead
      exact wpAny_bind (wpAny_loadPart (k _ _ (X _ _ ho)) (wpAny_pure q))
    · cases hcD
  ne := fun h tp dd its n sl X htp => by
    refine Bool.eq_false_iff.mpr fun q => ?_
    have e : C = tp := Value.ref.inj (beq_iff_eq.mp q)
    subst e
    have hcD := x.cl
    unfold PySem.W.clsIn at hcD
    split at hcD
    · rename_i c' d' cd' sl' ho
      have z := (X _ _ ho).symm.trans htp
      cases z
    · cases hcD
  ca := fun {prog w A E Q s} X p k => by
    obtain ⟨h, g, d, t, os⟩ := s
    obtain ⟨o, h1, h2⟩ := p
    obtain ⟨B, hg⟩ := x.sl
    exact cls_attr (x.lk _ _ X) hg h1 h2 k
theorem call_isinstE {X : Cx} : CallR X (.builtin "isinstance") (fun xs H Q => ∃ ea C c u b, xs = [.ref ea, c] ∧ H ea = some (excV ea C) ∧ ExC X.K C ∧ (∀ u', RelV c u' → u' = u) ∧ PySem.W.kitOne X.K (.ref C) u = some b ∧ Q (.bl b) H) := by
  intro pins s σ H xs us Q I r h
  obtain ⟨ea, C, c, u, b, rfl, he, x, hu, hk, q⟩ := h
  obtain ⟨u1, u2, rfl, r1, r2⟩ := vals2 r
  cases r1
  obtain rfl := hu _ r2
  obtain ⟨⟨o, vs, h1, h2, _⟩, _⟩ := (show ObjOk X.prog X.w H s.heap ea (excV ea C) from I.hok ea _ he)
  exact PySem.W.kia_one (kitx_exc x) I.kIn ⟨o, h1, h2⟩ hk (fun z => nomatch z) fun tk => ⟨.bl b, H, I.tok tk, rfl, q⟩
theorem call_isinstEs {X : Cx} : CallR X (.builtin "isinstance") (fun xs H Q => ∃ ea C tp cs us b, xs = [.ref ea, .ref tp] ∧ H ea = some (excV ea C) ∧ H tp = some (.tup cs) ∧ ExC X.K C ∧ (∀ us', Vals cs us' → us' = us) ∧ PySem.W.kitAny X.K (.ref C) us = some b ∧ Q (.bl b) H) := by
  intro pins s σ H xs us Q I r h
  obtain ⟨ea, C, tp, cs, us, b, rfl, he, ht, x, hu, hk, q⟩ := h
  obtain ⟨u1, u2, rfl, r1, r2⟩ := vals2 r
  cases r1
  cases r2
  obtain ⟨⟨o, vs, h1, h2, _⟩, _⟩ := (show ObjOk X.prog X.w H s.heap ea (excV ea C) from I.hok ea _ he)
  obtain ⟨_, its, rv, ot, g1, g2, k, g3⟩ := (show ObjOk X.prog X.w H s.heap tp (.tup cs) from I.hok tp _ ht)
  obtain rfl := hu _ rv
  obtain ⟨oc, od, dat, sl⟩ := ot
  cases (show oc = _ from g2)
  cases (show dat = _ from g3)
  exact PySem.W.kia_tup (kitx_exc x) I.kIn ⟨o, h1, h2⟩ g1 hk (fun z => nomatch z) fun tk => ⟨.bl b, H, I.tok tk, rfl, q⟩
end L2
set_option Elab.async false
set_option linter.all false
set_option maxRecDepth 100000
set_option maxHeartbeats 2000000
namespace L2
open PySem PySem.Spec PyProof.Rows
theorem vals_bools : ∀ {bs : List Bool} {its : List Value}, Vals (bs.map V.bl) its → its = bs.map Value.bool
  | [], _, .nil => rfl
  | b :: r, _, .cons h t => by
    cases (show _ = Value.bool b from h)
    rw [vals_bools t]; rfl
theorem eq_true {X : Cx} {pins : List (Addr × Obj)} {σ : St} {H : Hp} {s : Shared} (I : Inv X pins σ H s) {A : Around} (hu : A.units + 0 < cLine) (b : Bool) : SeqAt.EqAt A s (.bool b) (.bool true) (Value.bool b == Value.bool true) := by
  have z := (EqR.flat (K := X.K) (H := H) (n := 0) (x := .bl b) (y := .bl true) rfl rfl).at I (A := A) (u := .bool b) (v := .bool true) rfl rfl hu
  have e : eqV (.bl b) (.bl true) = (Value.bool b == Value.bool true) := by cases b <;> rfl
  rw [e] at z; exact z
theorem mt_countB {X : Cx} (hu : X.A.units + 64 < cLine) : MtR X "list.count" (fun x vs H Q => ∃ (l : Addr) (bs : List Bool), x = .ref l ∧ vs = [.bl true] ∧ SqL X.K H l (bs.map V.bl) ∧ Q (.int (bs.countP id : Nat)) H) := by
  intro pins s σ H x vs v us Q I rx rv h
  obtain ⟨l, bs, rfl, rfl, hq, q⟩ := h
  cases rx
  obtain ⟨u, rfl, ru⟩ := vals1 rv
  cases ru
  obtain ⟨its, r, ⟨o, n, ho, hc, hs, hd⟩, hz⟩ := I.list hq
  have ei := vals_bools r
  subst ei
  obtain ⟨oc, od, dat, sl⟩ := o
  cases (show oc = _ from hc)
  cases (show dat = _ from hd)
  refine call_meets F.slot_list_count ⟨_, ho, rfl⟩ F.entry_list_count (F.args_list_count_2 _ _) (SeqAt.list_countAt l (bs.map Value.bool).toArray n od sl (.bool true) (fun v => v == .bool true)) ⟨ho, fun y hy => ?_, ?_⟩
  · have hy' : y ∈ bs.map Value.bool := by simpa using hy
    obtain ⟨b, _, rfl⟩ := List.mem_map.mp hy'
    exact eq_true I (by show X.A.units + 1 + 0 < cLine; omega) b
  · have e : (bs.map Value.bool).countP (fun v => v == .bool true) = bs.countP id := by
      rw [List.countP_map]
      congr 1
      funext b
      cases b <;> rfl
    refine ⟨.int (bs.countP id : Nat), H, I.tok _, ⟨s.toks, ?_⟩, q⟩
    show Value.int (((bs.map Value.bool).toArray.toList.countP fun v => v == .bool true : Nat) : Int) s.toks = _
    rw [show (bs.map Value.bool).toArray.toList = bs.map Value.bool from rfl, e]
theorem mt_indexB {X : Cx} (hu : X.A.units + 64 < cLine) : MtR X "list.index" (fun x vs H Q => ∃ (l : Addr) (bs : List Bool) (j : Nat), x = .ref l ∧ vs = [.bl true] ∧ SqL X.K H l (bs.map V.bl) ∧ bs[j]? = some true ∧ (∀ m, m < j → bs[m]? = some false) ∧ bs.length ≤ 1000 ∧ Q (.int (j : Nat)) H) := by
  intro pins s σ H x vs v us Q I rx rv h
  obtain ⟨l, bs, j, rfl, rfl, hq, hj, hb, hl, q⟩ := h
  cases rx
  obtain ⟨u, rfl, ru⟩ := vals1 rv
  cases ru
  obtain ⟨its, r, ⟨o, n, ho, hc, hs, hd⟩, hz⟩ := I.list hq
  have ei := vals_bools r
  subst ei
  obtain ⟨oc, od, dat, sl⟩ := o
  cases (show oc = _ from hc)
  cases (show dat = _ from hd)
  have hjl : j < bs.length := (List.getElem?_eq_some_iff.mp hj).1
  refine call_meets F.slot_list_index ⟨_, ho, rfl⟩ F.entry_list_index (F.args_list_index_2 _ _) (SeqAt.list_indexAt l (bs.map Value.bool).toArray n od sl (.bool true) (fun v => v == .bool true) j (by simpa using hjl) (by omega) ?_ ?_) ⟨ho, fun y hy => ?_, ?_⟩
  · have : bs[j] = true := (List.getElem?_eq_some_iff.mp hj).2
    simp [this]
  · intro m hm hmj
    have : bs[m]'(by simpa using hm) = false := (List.getElem?_eq_some_iff.mp (hb m hmj)).2
    simp [this]
  · have hy' : y ∈ bs.map Value.bool := by simpa using hy
    obtain ⟨b, _, rfl⟩ := List.mem_map.mp hy'
    exact eq_true I (by show X.A.units + 1 + 0 < cLine; omega) b
  · exact ⟨.int (j : Nat), H, I.tok _, ⟨_, rfl⟩, q⟩
theorem vals_intsT : ∀ {ns : List Int} {its : List Value}, Vals (ns.map V.int) its → ∃ ts : List (Int × Tok), its = ts.map (fun p => Value.int p.1 p.2) ∧ ts.map (·.1) = ns
  | [], _, .nil => ⟨[], rfl, rfl⟩
  | i :: r, _, .cons h t => by
    obtain ⟨k, rfl⟩ := (show ∃ k, _ = Value.int i k from h)
    obtain ⟨ts, e1, e2⟩ := vals_intsT t
    exact ⟨(i, k) :: ts, by rw [e1]; rfl, by rw [List.map_cons, e2]⟩
theorem call_sum {X : Cx} (hc : X.calm = true) : CallR X (.builtin "sum") (fun xs H Q => ∃ (p : Addr) (ns : List Int), xs = [.ref p] ∧ SqL X.K H p (ns.map V.int) ∧ Q (.int ns.sum) H) := by
  intro pins s σ H xs us Q I r h
  obtain ⟨p, ns, rfl, hq, q⟩ := h
  obtain ⟨u, rfl, rx⟩ := vals1 r
  cases rx
  obtain ⟨its, r', pl, hz⟩ := I.list hq
  obtain ⟨ts, e1, e2⟩ := vals_intsT r'
  subst e1
  have el : (ts.map (fun p => Value.int p.1 p.2)).toArray = intItems ts.toArray := by unfold intItems; simp
  refine sum_intListG (xs := ts.toArray) (I.ok.hd hc) (by rw [← el]; exact pl.isList) fun h' tk t' hk => ?_
  have e : preSum (numAt ts.toArray) ts.toArray.size = ns.sum := by
    rw [preSum_eq, List.take_of_length_le (by simp), ← e2]
  rw [e]
  exact ⟨.int ns.sum, H, I.kept (t' := tk) hk, ⟨t', rfl⟩, q⟩
end L2
namespace L2
open PySem PySem.Spec PyProof.Rows
def CalF (P : Program) (w : World) (K : PySem.W.Frag) (mg : Str → Option Value) (base : Heap) (f : Addr) (k : Nat) (ps : List Str) (sp : Sp) : Prop :=
  ∃ fd, FnOk P w K mg base (CX1 P w) k f fd ps sp ∧ Binds K fd ps [] ∧ PySem.W.keepIn K (.ref f) = true
def tCallV (P : Program) (w : World) (K : PySem.W.Frag) (mg : Str → Option Value) (base : Heap) (k' : Nat) (Cat : St → Addr → Hp → Prop) (tf : TE) (t : TA) : TE := fun σ H Q => tf σ H fun x H1 =>
  ∃ (f : Addr) (k : Nat) (ps : List Str) (sp : Sp), x = .ref f ∧ CalF P w K mg base f k ps sp ∧ k ≤ k' ∧ t σ H1 fun vs H2 => sp vs H2 Q fun v _ H' => ∀ C, v = Value.ref C → Cat σ C H'
theorem pe_calV {X : Cx} {pins0 : List (Addr × Obj)} {Cat : St → Addr → Hp → Prop} {k' : Nat} {o i e : Expr} {es : List Expr} {tf : TE} {t : TA} {p pos : Pos} (hx : X.ex = []) (hr : Room k' X.A) (hf : PE (xTry X pins0 Cat) (.Subscript o i p) tf) (ha : PA (xTry X pins0 Cat) (e :: es) t)
    (he : starEach (e :: es) X.env = (false, eval e X.env) :: starEach es X.env := by rfl) (hpl : (backTo pos (starEach es X.env)).any (·.1) = false := by rfl) :
    PE (xTry X pins0 Cat) (.Call (.Subscript o i p) (e :: es) [] pos) (tCallV X.prog X.w X.K X.mg X.base k' Cat tf t) := by
  intro pins s σ H Q I h
  show wpAny (model X.prog X.w) X.A (do callWith pos (← eval (.Subscript o i p) X.env) [] (backTo pos (starEach (e :: es) X.env)) (backToKw pos (keywordEach [] X.env))) _ _ s
  refine wpAny_bind (wpAny_mono (hf pins s σ H _ I h) (fun fv s0 ⟨x, H0, I0, rx, f, k, ps, sp, ex, C, hk, h⟩ => ?_) fun _ _ z => z)
  subst ex
  cases rx
  obtain ⟨fd, F, b, kp⟩ := C
  refine PySem.W.callWith_K (h₀ := X.base) I0.ok.mod.kin kp (thn (ha pos pins s0 σ H0 _ I0 h) fun us s1 ⟨vs, H1, I1, r, q⟩ => ⟨I1.kIn, ?_⟩) he hpl
  have r2 : Vals vs (us ++ []) := by rw [List.append_nil]; exact r
  have hl : (us ++ []).length = ps.length := by rw [← r2.length]; exact F.len _ _ _ _ q
  refine wpAny_call (codeAny_mono (F.run X.A X.stack s1 H1 ⟨us, []⟩ (us ++ []) vs Q _ (hr.mono hk) I1.env0 (b s1 us I1.kIn hl) r2 q) fun r s' hq => ?_)
  cases r with
  | ok fl =>
    cases fl with
    | ret u => exact I1.after hq
    | next => exact False.elim hq
    | brk => exact False.elim hq
    | cont => exact False.elim hq
  | error e =>
    obtain ⟨ea, T, C, H', rfl, os, bare, un, hok, n1, n2, m1, m2, tr, q⟩ := hq
    have J := inv_untry I1
    exact ⟨ea, T, C, H', σ, rfl, J.call' os un hok bare (fun b z => nomatch z), tr, m1, m2, J.fresh_of hx n1, J.fresh_of hx n2, q C rfl⟩
end L2
set_option Elab.async false
set_option linter.all false
set_option maxRecDepth 100000
set_option maxHeartbeats 2000000
namespace L2
open PySem PySem.Spec PyProof.Rows
def keysB (es : Array DictEntry) : Bool := es.toList.all fun e => match e.key with | .str _ _ => true | _ => false
theorem keysB_ok {es : Array DictEntry} (h : keysB es = true) : StrKeys es := fun e he => by
  have z := List.all_eq_true.mp h e (by simpa using he)
  cases q : e.key with
  | str n t => exact ⟨n, t, rfl⟩
  | _ => rw [q] at z; cases z
section
variable {K : PySem.W.Frag} {C Pa N N' : Addr} {nm nm' q q' : Str} {bs bs' sub sub' : List Value} {hdct hdct' : Bool} {sn sn' : List Str} {ab ab' : Bool} {col col' : Option Bool} {dd dd' : Option Addr} {k0 k1 k2 k3 k5 k0' k1' k2' k3' k5' oc oc' : Option Value}
  {c1 c2 : Value} {od od' : Option Addr} {es es' : Array DictEntry} {n n' : Nat} {sl sl' : Array (Option Value)}
theorem ns_at (s : K.lookup N = some ⟨c1, od, .dict es n, sl⟩) (t : keysB es = true) {h : Heap} (X : K.In h) : h.Ns N (nsFind es) := ⟨_, es, n, X _ _ s, rfl, keysB_ok t, fun _ => rfl⟩
abbrev vMro : List Value := [.type "ValueError", .type "Exception", .type "BaseException", .type "object"]
theorem ec_sub (l : K.lookup C = some (excClassObj nm q C N bs (.ref Pa :: vMro) hdct sn sub ab col dd k0 k1 k2 k3 k5 "ValueError.__new__")) (s : K.lookup N = some ⟨c1, od, .dict es n, sl⟩) (t : keysB es = true) (i : nsFind es "__init__" = none)
    (l' : K.lookup Pa = some (excClassObj nm' q' Pa N' bs' vMro hdct' sn' sub' ab' col' dd' k0' k1' k2' k3' k5' "ValueError.__new__")) (s' : K.lookup N' = some ⟨c2, od', .dict es' n', sl'⟩) (t' : keysB es' = true) (i' : nsFind es' "__init__" = none) : EC K C :=
  ⟨_, _, _, _, _, _, _, _, _, _, _, _, _, _, _, _, "ValueError", _, _, _, nsFind es, PySem.F.excBase_ValueError, (by rfl), i, fun h X => ⟨X _ _ l, ns_at s t X, .own (X _ _ l') (ns_at s' t' X) i' .base⟩⟩
theorem und_sub (l : K.lookup C = some (excClassObj nm q C N bs (.ref Pa :: vMro) hdct sn sub ab col dd k0 k1 k2 k3 k5 "ValueError.__new__"))
    (l' : K.lookup Pa = some (excClassObj nm' q' Pa N' bs' vMro hdct' sn' sub' ab' col' dd' k0' k1' k2' k3' k5' "ValueError.__new__")) : Und K C Pa :=
  ⟨_, _, _, _, _, _, _, _, _, _, _, _, _, _, _, _, _, _, _, _, _, _, _, _, _, _, _, _, _, _, _, _, _, _, (by simp), (by rfl), fun h X => ⟨X _ _ l, X _ _ l'⟩⟩
theorem exc_of (l : K.lookup C = some (excClassObj nm q C N bs (.ref Pa :: vMro) hdct sn sub ab col dd k0 k1 k2 k3 k5 "ValueError.__new__")) (f1 : PySem.W.findIn K (.ref C) "__getattribute__" = some (some (.builtin "BaseException.__getattribute__"))) (f2 : PySem.W.findIn K (.ref C) "__getattr__" = some none)
    (f3 : PySem.W.findIn K (.ref C) "__class__" = some (some (.builtin "object.__class__"))) (f4 : PySem.W.subIn K (.ref C) (.type "BaseException") = some true) (f5 : PySem.W.subIn K (.ref C) (.type "object") = some true) : ExC K C where
  lk := fun M h X => ⟨PySem.W.looks_findIn X f1, PySem.W.looks_findIn X f2, PySem.W.looks_findIn X f3, PySem.W.looks_subIn X f4, by
    have e : (".".intercalate ("object.__class__".cutAt '.').dropLast) = "object" := by decide +kernel
    rw [e]; exact PySem.W.looks_subIn X f5⟩
  cl := by unfold PySem.W.clsIn; rw [l]; rfl
  sl := ⟨"ValueError", PySem.F.attrBase_ValueError.ga⟩
theorem kit_ref {D : Addr} {cd : ClassData} {b : Bool} (ne : (Value.ref C == Value.ref D) = false) (h1 : PySem.W.clsIn K D = some cd) (h2 : PySem.W.typeIn K (.ref D) = some (.type "type")) (h3 : PySem.W.subIn K (.ref C) (.ref D) = some b) : PySem.W.kitOne K (.ref C) (.ref D) = some b := by
  unfold PySem.W.kitOne PySem.W.kitCls
  rw [ne, if_neg (by simp)]
  show (if ((PySem.W.clsIn K D).isSome && PySem.W.typeIn K (Value.ref D) == some (Value.type "type")) = true then PySem.W.subIn K (Value.ref C) (Value.ref D) else none) = some b
  rw [h1, h2]
  exact (if_pos (by simp)).trans h3
theorem kit_self : PySem.W.kitOne K (.ref C) (.ref C) = some true := by
  unfold PySem.W.kitOne
  rw [if_pos (beq_self_eq_true _)]
theorem kit_val (h3 : PySem.W.subIn K (.ref C) (.type "ValueError") = some true) : PySem.W.kitOne K (.ref C) (.type "ValueError") = some true := by
  unfold PySem.W.kitOne PySem.W.kitCls
  have e : PySem.W.kitMeta "ValueError" = true := by decide +kernel
  have e1 : (Value.ref C == Value.type "ValueError") = false := rfl
  simp only [e1, e, if_true]
  exact h3
end
end L2
namespace L2
open PySem
theorem kit_any4 {K : PySem.W.Frag} {t a b c d : Value} (h1 : PySem.W.kitOne K t a = some false) (h2 : PySem.W.kitOne K t b = some false) (h3 : PySem.W.kitOne K t c = some false) (h4 : PySem.W.kitOne K t d = some false) : PySem.W.kitAny K t [a, b, c, d] = some false := by
  simp only [PySem.W.kitAny, h1, h2, h3, h4]
end L2
set_option Elab.async false
set_option linter.all false
set_option maxRecDepth 100000
set_option maxHeartbeats 2000000
namespace L2
open PySem PySem.Spec PyProof.Rows
def spDown (sp : Sp) : Sp := fun vs H Q _ => sp vs H Q fun _ _ _ => False
theorem FnOk.down {P : Program} {w : World} {K : PySem.W.Frag} {mg : Str → Option Value} {base : Heap} {k : Nat} {f : Addr} {fd : FuncData} {ps : List Str} {sp : Sp} (F : FnOk P w K mg base (CX1 P w) k f fd ps sp) : FnOk P w K mg base CX0 k f fd ps (spDown sp) :=
  ⟨fun vs H Q E h => F.len vs H Q _ h, fun A outer s H args us vs Q E hr he hb hv hs => codeAny_mono (F.run A outer s H args us vs Q _ hr he hb hv hs) fun r s' h => by
    cases r with
    | ok fl => cases fl <;> exact h
    | error e =>
      obtain ⟨ea, T, C, H', _, _, _, _, _, _, _, _, _, _, z⟩ := h
      exact z.elim⟩
def revS (z : Str) : Str := ⟨((Builtin.Str.strSliceIndices none none (-1) z.length).filterMap (z.cps[·]?)).toArray⟩
theorem pe_revS {X : Cx} {e k : Expr} {te tk : TE} {p2 pos : Pos} (he : PE X e te) (hk : PE X k tk) : PE X (.Subscript e (.Slice none none (some k) p2) pos)
    (fun σ H Q => te σ H fun x H1 => tk σ H1 fun y H2 => y = .int (-1) ∧ ∃ z, x = .str z ∧ (revS z).length ≤ sizeLine ∧ Q (.str (revS z)) H2) := by
  intro pins s σ H Q I h
  refine Subscript_ (thn (he pins s σ H _ I h) fun v s1 ⟨x, H1, I1, r1, q1⟩ => ?_)
  refine wpAny_Slice ?_
  rw [evalPart_none]
  refine wpAny_pure (wpAny_pure ?_)
  rw [evalPart_some]
  refine thn (hk pins s1 σ H1 _ I1 q1) fun vk s3 ⟨y, H3, I3, r3, q3⟩ => ?_
  obtain ⟨rfl, z, rfl, hz, q⟩ := q3
  obtain ⟨t, rfl⟩ := r3
  obtain ⟨t1, rfl⟩ := r1
  have I4 : Inv X pins σ H3 { s3 with heap := s3.heap.push { cls := .type "slice", data := .fields #[.none, .none, .int (-1) t] } } := I3.kept (t' := s3.toks) fun b ob q => Heap.get?_push_of_some _ q
  refine tail_any (ops := [.str z t1, .ref s3.heap.objs.size]) (s := { s3 with heap := s3.heap.push { cls := .type "slice", data := .fields #[.none, .none, .int (-1) t] } }) (typeIs_str _ z t1) F.slot_str_getitem.lookup ?_ (by with_unfolding_all rfl)
  refine wpAny_getItem_str_slice (l := none) (u := none) (st := some (-1, t)) ⟨_, Heap.get?_push_size _ rfl, rfl, rfl⟩ rfl ?_
  unfold sliceMade
  rw [if_neg (by simp)]
  exact ⟨hz, .str (revS z), H3, I4.tok _, ⟨_, rfl⟩, q⟩
end L2
set_option Elab.async false
set_option linter.all false
set_option maxRecDepth 100000
set_option maxHeartbeats 2000000
namespace L2
open PySem PySem.Spec PyProof.Rows
section
variable {X : Cx}
theorem ps_setC {i₀ : Nat} {x : Str} {px spos : Pos} {elt tg iter : Expr} {ifs : List Expr} {scope : Scope} {pos : Pos} {cl : List (Str × Addr)} {NY : List Str} {cap : List (Option Nat)} {wi : TI} {g : TG} {tt : TT} {te : TE} (hN : X.N.Nodup) (hiN : X.N[i₀]? = some x) (hx : Loc X.env.scope x) (hc : X.calm = true) (hi : PI X tg iter wi)
    (hclos : closureFor scope X.env = pure cl) (hci : CellsIn X.env cl) (hcap : CapOk X.env (relabel scope X.env) X.N NY cap)
    (hb : ∀ fp s H C, PG (cxComp X scope cl NY fp s H C) tg g ∧ PIfs (cxComp X scope cl NY fp s H C) ifs tt ∧ PE (cxComp X scope cl NY fp s H C) elt te)
    (hkind : scope.kind = .function := by rfl) (hnc : (scope.names.all fun y => y.2 != .cell) = true := by rfl)
    (hnames : (scope.names.all fun y => y.2 != .local || scope.names.lookup y.1 == some .local) = true := by rfl)
    (hhas : ((relabel scope X.env).names.all fun p => (p.2 != .cell && p.2 != .free) || (cl.lookup p.1).isSome) = true := by rfl)
    (hs : ∀ x, foldedSetIterable iter X.env x = pure x := by intro _; rfl) (hsw : swapsWith (.ListComp elt [⟨tg, iter, ifs, 0⟩] scope pos) (some (.Name x px)) spos.line X.env = pure true := by rfl)
    (hf : X.fn x = true ∨ X.env.scope.names.lookup x = some .local := by first | exact .inl rfl | exact .inr rfl | assumption) :
    PS X (.Assign [.Name x px] (.ListComp elt [⟨tg, iter, ifs, 0⟩] scope pos) spos) (tAsg (tLc cap wi g tt te) (gName i₀)) := by
  have hnc' : ∀ y ∈ scope.names, y.2 ≠ .cell := fun y hy => by
    have q := List.all_eq_true.mp hnc y hy
    simpa using q
  have hnames' : ∀ y ∈ scope.names, y.2 = .local → scope.names.lookup y.1 = some .local := fun y hy e => by
    have q := List.all_eq_true.mp hnames y hy
    rw [e] at q
    simpa using q
  intro pins s σ H D I h
  rw [exec_Assign_Name_used _ _ _ _ hsw]
  refine wpAny_bind (wpAny_standAt (wpAny_bind ?_))
  show wpAny _ X.A (do let _ ← comprehension (.ListComp elt [⟨tg, iter, ifs, 0⟩] scope pos) scope X.env _ (newList []) false (eval iter X.env) (some (assign (.Name x px) X.env))) _ _ s
  refine wpAny_bind (wpAny_mono (wpAny_comprehension_free (use := some (assign (.Name x px) X.env)) (Q := fun _ s' => ∃ σ' H', Inv X pins σ' H' s' ∧ D.nx σ' H') rfl hs hclos hkind hnames' (wpAny_mono (hi pins s σ H _ I h) (fun v s1 h1 => wpAny_mono h1 (fun itv s2 h2 => ?_) fun _ _ e => e) fun _ _ e => e)) (fun _ s' hq => wpAny_pure (wpAny_pure hq)) fun _ _ e => e)
  obtain ⟨it, fp, tn, J, H2, e, I2, T, st2, f2, W, ⟨m0, w0⟩, turn⟩ := h2
  subst e
  refine wpAny_newObj_type (wpAny_newFunctionEnv hnc' (by intro y hy; simp at hy) (fun h₁ hns₁ hsb₁ => ?_) hkind)
  dsimp only at hns₁ hsb₁ ⊢
  generalize hH2 : s2.heap.push { cls := .type "list", dict := none, data := .seq ([] : List Value).toArray } = G2 at hns₁ hsb₁ ⊢
  have hC : G2.objs.size = s2.heap.objs.size + 1 := by rw [← hH2, Heap.size_push]
  have hDC : s2.heap.objs.size ≠ G2.objs.size := by rw [hC]; exact Nat.ne_of_lt (Nat.lt_succ_self _)
  have hDlt : s2.heap.objs.size ≤ G2.objs.size := by rw [hC]; exact Nat.le_succ _
  have below : ∀ b, b < s2.heap.objs.size → b ≠ G2.objs.size ∧ b ≠ s2.heap.objs.size := fun b hb => ⟨by rw [hC]; exact Nat.ne_of_lt (Nat.lt_succ_of_lt hb), Nat.ne_of_lt hb⟩
  have old : ∀ b o, s2.heap.get? b = some o → h₁.get? b = some o := fun b o e => hsb₁.extBut b o (below b (Heap.lt_size e)).1 (Heap.get?_push_of_some _ (hH2 ▸ Heap.get?_push_of_some _ e))
  have hacc : h₁.get? s2.heap.objs.size = some { cls := .type "list", data := .seq ([] : List Value).toArray 0 } := hsb₁.extBut _ _ hDC (Heap.get?_push_of_some _ (hH2 ▸ Heap.get?_push_size _ rfl))
  have fpl : ∀ b ∈ fp, b < s2.heap.objs.size := fun b hb => by
    obtain ⟨o, e, _⟩ := T.obj _ _ st2 b hb
    exact Heap.lt_size e
  have freshD : H2 s2.heap.objs.size = none := I2.hok.fresh (Nat.le_refl _)
  have freshC : H2 G2.objs.size = none := I2.hok.fresh hDlt
  have cellLt : ∀ x c, X.env.cells.lookup x = some c → c < s2.heap.objs.size := fun x c e => by
    obtain ⟨v, q⟩ := I2.cell x c e
    exact q.lt
  have hclX : ∀ x c, cl.lookup x = some c → X.env.cells.lookup x = some c := fun x c e => hci.get e
  obtain ⟨hbg, hbt, hbe⟩ := hb fp s2 H2 G2.objs.size
  have okY : (cxComp X scope cl NY fp s2 H2 G2.objs.size).Ok := by
    refine ⟨I2.ok.mod, hkind, I2.ok.glob, I2.ok.blt, hDlt, fun x y c e1 e2 => I2.ok.inj x y c (hclX x c e1) (hclX y c e2), fun x hx => ?_, fun x c hf _ => ?_, I2.ok.hd, I2.ok.frames, .inl rfl, fun b hb => ⟨(below b (fpl b hb)).1, fun x c e z => ?_⟩, I2.bs,
      Nat.le_trans I2.ok.bsz I2.sz, fun b o e hb => ?_, fun b hb hz => ?_, I2.stack, I2.stkFree⟩
    · have hx' : (relabel scope X.env).names.lookup x = some .cell ∨ (relabel scope X.env).names.lookup x = some .free := hx
      have key : ∀ k, (relabel scope X.env).names.lookup x = some k → (k = .cell ∨ k = .free) → ∃ c, cl.lookup x = some c := fun k e hk => by
        have q := List.all_eq_true.mp hhas (x, k) (PySem.mem_of_lookup e)
        have q' : (cl.lookup x).isSome = true := by
          rcases hk with rfl | rfl <;> simpa using q
        exact Option.isSome_iff_exists.mp q'
      rcases hx' with e | e
      · exact key _ e (.inl rfl)
      · exact key _ e (.inr rfl)
    · exact absurd (show false = true from hf) Bool.false_ne_true
    · exact (f2 b hb).2.2.2.2.1 x c (hclX x c e) z
    · rcases (f2 b hb).2.2.2.1 with z | z
      · exact I2.ok.noex b o e z
      · exact absurd (Nat.lt_of_lt_of_le (Heap.lt_size (I2.ok.bs b o e).1) z) (Nat.lt_irrefl _)
    · rcases List.mem_cons.mp (I2.stkSub b hz) with z | z
      · exact (f2 b hb).2.1 z
      · exact (f2 b hb).2.2.1 z
  have fpYs : ∀ {H' : Hp} {n : Nat} {its : List Value}, (∀ b ∈ fp, H' b = none) → ∀ b ∈ fp, FpOk (cxComp X scope cl NY fp s2 H2 G2.objs.size) [(s2.heap.objs.size, { cls := .type "list", data := .seq its.toArray n })] H' b := fun {H' n its} hn b hb => by
    refine ⟨hn b hb, (below b (fpl b hb)).1, fun hz => ?_, .inl hb, fun x c e => (f2 b hb).2.2.2.2.1 x c (hclX x c e), fun p hp => ?_⟩
    · rcases List.mem_cons.mp (I2.stkSub b hz) with z | z
      · exact (f2 b hb).2.1 z
      · exact (f2 b hb).2.2.1 z
    · have e : p = (s2.heap.objs.size, { cls := .type "list", data := .seq its.toArray n }) := by simpa [cxComp] using hp
      rw [e]
      exact Ne.symm (below b (fpl b hb)).2
  have nostk : ∀ b, s2.heap.objs.size ≤ b → b ∉ frs X.stack := fun b hb hz => by
    rcases List.mem_cons.mp (I2.stkSub b hz) with z | z
    · have := I2.lt; rw [← z] at this; exact absurd (Nat.lt_of_lt_of_le this hb) (Nat.lt_irrefl _)
    · exact I2.nofs hb z
  have IY0 : Inv (cxComp X scope cl NY fp s2 H2 G2.objs.size) [(s2.heap.objs.size, { cls := .type "list", data := .seq ([] : List Value).toArray 0 })] (capSt cap σ) H2 { s2 with heap := h₁, toks := s2.toks + ([] : List (Str × Value)).length } := by
    refine ⟨okY, rfl, I2.bare, Un.kept old, ⟨_, hns₁, fun j x v e1 e2 e3 => ?_⟩, fun x c e => ?_, freshC, fun x c e => I2.freeC x c (hclX x c e), fun p hp => ?_, I2.hok.kept old, ?_⟩
    · obtain ⟨i, h1, h2, h3, h4⟩ := CapOk.get (σ := σ) hcap e1 e2
      obtain ⟨m, hn, hl⟩ := I2.loc
      have vis : Vis X.env.scope x := by rcases h3 with z | z; exact .inr (.inl z); exact .inr (.inr z)
      obtain ⟨u, r, l⟩ := hl i x v h1 h2 vis
      refine ⟨u, r, .inr ⟨h4, ?_⟩⟩
      rcases l with ⟨k, _⟩ | ⟨_, c, e, z⟩
      · rcases h3 with z | z <;> (rw [k] at z; cases z)
      · obtain ⟨c', e'⟩ := okY.has x h4
        have e' : cl.lookup x = some c' := e'
        have e'' := hclX x c' e'
        rw [e] at e''
        cases e''
        obtain ⟨o, ho, hd⟩ := z
        exact ⟨c, e', o, old _ _ ho, hd⟩
    · obtain ⟨v, o, ho, hd⟩ := I2.cell x c (hclX x c e)
      exact ⟨v, o, old _ _ ho, hd⟩
    · have e : p = (s2.heap.objs.size, { cls := .type "list", data := .seq ([] : List Value).toArray 0 }) := by simpa [cxComp] using hp
      rw [e]
      exact ⟨hacc, freshD, hDC, nostk _ (Nat.le_refl _), fun v z => by cases z⟩
    · show (capSt cap σ).length = NY.length
      unfold capSt
      rw [List.length_map]
      exact hcap.len
  have hcY : (cxComp X scope cl NY fp s2 H2 G2.objs.size).calm = true := hc
  have stW : tn 0 h₁ := T.keep _ _ _ st2 fun b _ o e => old b o e
  have loop : ∀ s₃ : Shared, s₃ = { s2 with heap := h₁, toks := s2.toks + ([] : List (Str × Value)).length } →
      codeAny (model X.prog X.w) X.A (.compLoop (.ListComp elt [⟨tg, iter, ifs, 0⟩] scope pos) 0 (.ref it) (.ref s2.heap.objs.size) (compEnvC scope cl G2.objs.size X.env))
        (compPost (model X.prog X.w) X.A X.xe (some (assign (.Name x px) X.env)) (fun _ s' => ∃ σ' H', Inv X pins σ' H' s' ∧ D.nx σ' H') (.ref s2.heap.objs.size) G2.objs.size) s₃ := by
    rintro s₃ rfl
    refine compLoopG (fun n s' => ∃ i ys its k H', Inv (cxComp X scope cl NY fp s2 H2 G2.objs.size) [(s2.heap.objs.size, { cls := .type "list", data := .seq its.toArray k })] (capSt cap σ) H' s' ∧ Vals ys its ∧ ys.length ≤ sizeLine ∧ tn i s'.heap ∧ (∀ b ∈ fp, H' b = none) ∧ W i n ys H') ?_ m0
      ⟨0, [], [], 0, H2, IY0, .nil, Nat.zero_le _, stW, fun b hb => (f2 b hb).1, w0⟩
    rintro n s3 ⟨i, ys, its, k, H3, I3, rv, hz, st3, fr3, w3⟩
    rcases turn i n ys H3 w3 with ⟨stop, qn⟩ | ⟨go, hlt, step⟩
    · refine wpAny_mono (T.done (cxComp X scope cl NY fp s2 H2 G2.objs.size) rfl rfl rfl hcY i _ s3 _ H3 (fun _ _ => False) I3 (fpYs fr3) st3 stop) (fun r s4 ⟨hr, I4⟩ => ?_) fun _ _ z => z
      subst hr
      obtain ⟨m, hnC, _⟩ := id I4.loc
      have hnC : s4.heap.Ns G2.objs.size m := hnC
      have pD := (I4.pin (s2.heap.objs.size, { cls := .type "list", data := .seq its.toArray k }) (by simp [cxComp]))
      have un : Un (frs X.stack) fp H2 H3 s2.heap s4.heap := I4.base
      have I5 : Inv X pins σ H3 s4 := I2.call' (ch := fp) I4.os un I4.hok I4.bare fun b hb => ⟨(f2 b hb).2.2.2.1, (f2 b hb).2.1, (f2 b hb).2.2.2.2.1, (f2 b hb).2.2.2.2.2⟩
      have cC : H3 G2.objs.size = none := I4.free
      have szX : X.s₀.heap.objs.size ≤ s2.heap.objs.size := I2.sz
      have I7 : Inv X pins σ (upd H3 s2.heap.objs.size (.lst ys)) s4 := I5.adopt pD.2.1 szX (Nat.ne_of_gt I2.lt) (fun x c e => Nat.ne_of_lt (cellLt x c e)) (fun p hp => Nat.ne_of_lt (Heap.lt_size (I2.pin p hp).1))
        ⟨hz, its, k, rv, pD.1⟩
      obtain ⟨oC, es, ep, hoC, hdC, rC⟩ := hnC
      have nL : G2.objs.size ≠ X.env.locals := Nat.ne_of_gt (Nat.lt_of_lt_of_le I2.lt hDlt)
      have cC' : upd H3 s2.heap.objs.size (.lst ys) G2.objs.size = none := by rw [upd_ne (Ne.symm hDC)]; exact cC
      have I8 : Inv X ((G2.objs.size, oC) :: pins) σ (upd H3 s2.heap.objs.size (.lst ys)) s4 := I7.pins_of fun p hp => by
        rcases List.mem_cons.mp hp with z | z
        · rw [z]
          exact ⟨hoC, cC', nL, fun hz => I2.nofs hDlt hz, fun v z => by rw [hdC] at z; cases z⟩
        · exact I7.pin p (List.mem_append_right _ z)
      show wpAny _ X.A (assign (.Name x px) X.env (.ref s2.heap.objs.size)) _ _ s4
      refine wpAny_assign_Name (store_ok (v := .ref s2.heap.objs.size) I8 hN hiN hx rfl (fun s5 I9 => ?_) hf)
      have pC := I9.pin (G2.objs.size, oC) (List.mem_append_right _ List.mem_cons_self)
      refine ⟨m, ⟨oC, es, ep, pC.1, hdC, rC⟩, fun h' hsb => ?_⟩
      have I10 : Inv X pins (σ.set i₀ (some (.ref s2.heap.objs.size))) (upd H3 s2.heap.objs.size (.lst ys)) s5 := I9.pins_of fun p hp => I9.pin p (List.mem_append_right _ (List.mem_cons_of_mem _ hp))
      have I11 : Inv X pins (σ.set i₀ (some (.ref s2.heap.objs.size))) (upd H3 s2.heap.objs.size (.lst ys)) { s5 with heap := h' } := I10.turned (t' := s5.toks) (it := G2.objs.size) (fun b o hb e => hsb.extBut b o hb e) cC' nL (.inr (Nat.le_trans szX hDlt))
        (fun x c e z => absurd (cellLt x c e) (by rw [z]; exact Nat.not_lt.mpr hDlt)) (fun p hp z => absurd (Heap.lt_size (I2.pin p hp).1) (by rw [z]; exact Nat.not_lt.mpr hDlt))
      exact ⟨_, _, I11, qn _ pD.2.1⟩
    · refine wpAny_mono (T.item (cxComp X scope cl NY fp s2 H2 G2.objs.size) rfl rfl rfl hcY i _ s3 _ H3 (fun _ _ => False) I3 (fpYs fr3) st3 go) (fun r s4 ⟨u, hr, h4⟩ => ?_) fun _ _ z => z
      subst hr
      refine wpAny_mono h4 (fun _ s5 ⟨x, H5, I5, r5, y5, st5, fr5⟩ => ?_) fun _ _ z => z
      have I5' := I5.pinned (fpYs fr5) (T.obj _ _ st5)
      refine wpAny_mono (hbg _ s5 _ H5 x u _ I5' r5 (step x H5 y5)) (fun _ s6 ⟨σ6, H6, I6, q6⟩ => ?_) fun _ _ z => z
      refine wpAny_mono (hbt _ s6 σ6 H6 _ I6 q6) (fun ok s7 ⟨H7, I7, q7⟩ => ?_) fun _ _ z => z
      have lenY : ∀ {σ' : St} {pn} {H'} {s'}, Inv (cxComp X scope cl NY fp s2 H2 G2.objs.size) pn σ' H' s' → (capSt cap σ).length = σ'.length := fun {σ' pn H' s'} Z => IY0.len.trans Z.len.symm
      have captured : ∀ {σ' : St} {pn} {H'} {s'}, Inv (cxComp X scope cl NY fp s2 H2 G2.objs.size) pn σ' H' s' → Inv (cxComp X scope cl NY fp s2 H2 G2.objs.size) pn (capSt cap σ) H' s' := fun {σ' pn H' s'} Z => by
        refine ⟨Z.ok, Z.os, Z.bare, Z.base, ?_, Z.cell, Z.free, Z.freeC, Z.pin, Z.hok, IY0.len⟩
        obtain ⟨m, hn, _⟩ := Z.loc
        refine ⟨m, hn, fun j x v e1 e2 e3 => ?_⟩
        obtain ⟨i', h1, h2, h3, h4⟩ := CapOk.get (σ := σ) hcap e1 e2
        obtain ⟨m', hn', hl⟩ := I2.loc
        have vis : Vis X.env.scope x := by rcases h3 with z | z; exact .inr (.inl z); exact .inr (.inr z)
        obtain ⟨u, r, l⟩ := hl i' x v h1 h2 vis
        refine ⟨u, r, .inr ⟨h4, ?_⟩⟩
        rcases l with ⟨kk, _⟩ | ⟨_, c, e, z⟩
        · rcases h3 with z | z <;> (rw [kk] at z; cases z)
        · obtain ⟨c', e'⟩ := okY.has x h4
          have e' : cl.lookup x = some c' := e'
          have e'' := hclX x c' e'
          rw [e] at e''
          cases e''
          obtain ⟨o, ho, hd⟩ := z
          have nfp : c ∉ fp := fun hz => (f2 c hz).2.2.2.2.1 x c e rfl
          obtain ⟨sl, q⟩ := Z.base.any (show s2.heap.get? c = some o from ho) (I2.freeC x c e) nfp
          exact ⟨c, e', _, q, hd⟩
      have again : ∀ {ys' : List V} {its' : List Value} {k' : Nat} {σ' : St} {H' : Hp} {s' : Shared}, Inv (cxComp X scope cl NY fp s2 H2 G2.objs.size) ([(s2.heap.objs.size, { cls := .type "list", data := .seq its'.toArray k' })] ++ pinsAt fp s5.heap) σ' H' s' → Vals ys' its' → ys'.length ≤ sizeLine →
          (∃ m', m' < n ∧ W (i + 1) m' ys' H') → ∃ m, m < n ∧ ∃ i ys its k H', Inv (cxComp X scope cl NY fp s2 H2 G2.objs.size) [(s2.heap.objs.size, { cls := .type "list", data := .seq its.toArray k })] (capSt cap σ) H' s' ∧ Vals ys its ∧ ys.length ≤ sizeLine ∧ tn i s'.heap ∧ (∀ b ∈ fp, H' b = none) ∧ W i m ys H' := fun {ys' its' k' σ' H' s'} Z rv' hz' hw => by
        obtain ⟨m', hm, w'⟩ := hw
        refine ⟨m', hm, i + 1, ys', its', k', H', captured Z.unpinned, rv', hz', T.keep _ _ _ st5 fun b hb o e => (Z.pin (b, o) (List.mem_append_right _ (List.mem_append_right _ (mem_pinsAt hb e)))).1, fun b hb => ?_, w'⟩
        obtain ⟨o, e, d⟩ := T.obj _ _ st5 b hb
        exact (Z.pin (b, o) (List.mem_append_right _ (List.mem_append_right _ (mem_pinsAt hb e)))).2.1
      cases ok with
      | false =>
        rw [if_neg Bool.false_ne_true] at q7 ⊢
        exact again I7 rv hz q7
      | true =>
        rw [if_pos rfl] at q7 ⊢
        refine wpAny_mono (hbe _ s7 σ6 H7 _ I7 q7) (fun xv s8 ⟨v, H8, I8, r8, q8⟩ => ?_) fun _ _ z => z
        have pD := I8.pin (s2.heap.objs.size, { cls := .type "list", data := .seq its.toArray k }) (by simp [cxComp])
        have hlen := rv.length
        refine append_at pD.1 (fun h9 hs9 hD9 => ?_) (by rw [List.size_toArray]; omega)
        have I9 : Inv (cxComp X scope cl NY fp s2 H2 G2.objs.size) (pinsAt fp s5.heap) σ6 H8 s8 := I8.pins_of fun p hp => I8.pin p (List.mem_append_right _ (List.mem_append_right _ hp))
        have I10 : Inv (cxComp X scope cl NY fp s2 H2 G2.objs.size) (pinsAt fp s5.heap) σ6 H8 { s8 with heap := h9 } := I9.turned (t' := s8.toks) (it := s2.heap.objs.size) (fun b o hb e => hs9.extBut b o hb e) pD.2.1 hDC (.inr (Nat.le_refl _))
          (fun x c e => Nat.ne_of_lt (cellLt x c (hclX x c e))) fun p hp => by
            have hp' : p ∈ pinsAt fp s5.heap := by simpa [cxComp] using hp
            exact Ne.symm (Ne.symm (below _ (fpl _ (of_pinsAt hp').1)).2)
        have I11 : Inv (cxComp X scope cl NY fp s2 H2 G2.objs.size) ([(s2.heap.objs.size, { cls := .type "list", data := .seq (its ++ [xv]).toArray (k + 1) })] ++ pinsAt fp s5.heap) σ6 H8 { s8 with heap := h9 } := I10.pins_of fun p hp => by
          rcases List.mem_append.mp hp with z | z
          · have e : p = (s2.heap.objs.size, { cls := .type "list", data := .seq (its ++ [xv]).toArray (k + 1) }) := by simpa using z
            rw [e]
            refine ⟨?_, pD.2.1, hDC, nostk _ (Nat.le_refl _), fun v z => by cases z⟩
            rw [List.push_toArray] at hD9
            exact hD9
          · exact I10.pin p (List.mem_append_right _ z)
        exact again I11 (rv.append (.cons r8 .nil)) (by rw [List.length_append, List.length_singleton]; exact hlt) q8
  exact codeAny_compStart_list (loop _ rfl) (T.self _ 0 _ _ _ stW (loop _ rfl))
end
end L2
set_option Elab.async false
set_option linter.all false
set_option maxRecDepth 100000
set_option maxHeartbeats 4000000
namespace L2
open PySem PySem.Spec PyProof.Rows
theorem pe_notT {X : Cx} {a : Expr} {ta : TE} {pos : Pos} (ha : PE X a ta) : PE X (.UnaryOp .Not a pos) (fun σ H Q => ta σ H fun x H' => ∃ k, TruV X.K x H' k ∧ Q (.bl (!k)) H') := by
  intro pins s σ H Q I h
  refine UnaryOp_ (thn (ha pins s σ H _ I h) fun v s1 ⟨x, H1, I1, r1, k, tr, q1⟩ => ?_)
  exact not_of (thn (tru_ok pins s1 σ H1 x v _ I1 r1 ⟨k, tr, q1⟩) fun b s2 ⟨H2, I2, q2⟩ => ⟨.bl (!b), H2, I2, rfl, q2⟩)
theorem Same.upd {H H1 : Hp} {p : Addr} {o : HO} (a : Same H H1) (h : H p = none) : Same H (L2.upd H1 p o) := fun b u q => by
  rw [upd_ne (ne_of_none q h)]; exact a b u q
end L2
namespace Put
open PySem L2
def top (i : Nat) : Stmt := PySem.Challenge.pw_putsigns_k07_refused_by_rows_and_ways.main.body.getD i (.Pass ⟨0, 0, 0, 0⟩)
inductive Sg where
  | plus | minus | times
  deriving DecidableEq
def Sg.str : Sg → Str
  | .plus => "+"
  | .minus => "-"
  | .times => "*"
inductive Wy where
  | num (i : Int)
  | node (g : Sg) (l r : Wy)
  deriving DecidableEq
def Wy.size : Wy → Nat
  | .num _ => 1
  | .node _ l r => l.size + r.size
theorem Wy.size_pos : ∀ w : Wy, 1 ≤ w.size
  | .num _ => Nat.le_refl _
  | .node _ l r => by have := l.size_pos; show 1 ≤ l.size + r.size; omega
def WyIn (H : Hp) : Wy → V → Prop
  | .num i, v => v = .int i
  | .node g l r, v => ∃ a vl vr, v = .ref a ∧ H a = some (.tup [.str g.str, vl, vr]) ∧ WyIn H l vl ∧ WyIn H r vr
def Tups (H H' : Hp) : Prop := ∀ b xs, H b = some (.tup xs) → H' b = some (.tup xs)
theorem Tups.of {H H' : Hp} (a : Same H H') : Tups H H' := fun b xs h => a b _ h
theorem Tups.but {H H' : Hp} {w : Addr} {xs : List V} (a : But w H H') (h : H w = some (.lst xs)) : Tups H H' := fun b ys q => a b _ (fun e => by rw [e, h] at q; cases q) q
theorem Tups.trans {H H1 H2 : Hp} (a : Tups H H1) (b : Tups H1 H2) : Tups H H2 := fun c xs h => b c xs (a c xs h)
theorem WyIn.mono {H H' : Hp} (t : Tups H H') : ∀ {w : Wy} {v : V}, WyIn H w v → WyIn H' w v
  | .num _, _, h => h
  | .node g l r, v, h => by
    obtain ⟨a, vl, vr, e, h1, h2, h3⟩ := h
    exact ⟨a, vl, vr, e, t _ _ h1, WyIn.mono t h2, WyIn.mono t h3⟩
structure Bu (K : PySem.W.Frag) (mg : Str → Option Value) : Prop where
  ilen : mg "len" = none
  iisinstance : mg "isinstance" = none
  iint : mg "int" = none
  ibool : mg "bool" = none
  istr : mg "str" = none
  ituple : mg "tuple" = none
  ilist : mg "list" = none
  isorted : mg "sorted" = none
  irange : mg "range" = none
  irepr : mg "repr" = none
  ienumerate : mg "enumerate" = none
  isum : mg "sum" = none
  iall : mg "all" = none
  imin : mg "min" = none
  imax : mg "max" = none
  iabs : mg "abs" = none
  idivmod : mg "divmod" = none
  idict : mg "dict" = none
  iset : mg "set" = none
structure Co (K : PySem.W.Frag) (mg : Str → Option Value) (tk : Tok) (aS : Addr) : Prop where
  gMOST_NUMBERS : mg "MOST_NUMBERS" = some (.int 9 tk)
  gSIGNS : mg "SIGNS" = some (.ref aS)
  sSIGNS : ∀ H, SqT K H aS [.str "+", .str "-", .str "*"]
section
variable {P : Program} {w : World} {K : PySem.W.Frag} {mg : Str → Option Value} {base : Heap} {f : Addr} {fd : FuncData}
def spWhole (K : PySem.W.Frag) : Sp := fun vs H Q _ => ∃ x n, vs = [x] ∧ TyOf K H x (.type n) ∧ Q (.bl (decide (n = "int"))) H
abbrev s_is_whole : Stmt := top 17
theorem sc_is_whole : FnScope ["thing"] ["thing"] (defScope s_is_whole) := ⟨rfl, rfl, rfl, by decide +kernel, rfl, by decide +kernel, by decide +kernel⟩
theorem ok_is_whole (F : Fun K "is_whole" "is_whole" s_is_whole f fd) (B : Bu K mg) : FnOk P w K mg base CX0 1 f fd ["thing"] (spWhole K) := by
  refine F.ok sc_is_whole (fun vs H Q E h => ?_) (fun cdv A outer s H vs Q E hr h => ?_)
  · obtain ⟨x, n, rfl, _⟩ := h
    rfl
  obtain ⟨x, n, rfl, ty, q⟩ := h
  refine ⟨_, (@pss_one _ _ _ (@ps_ret _ _ _ _ (@pe_and _ _ _ _ _ _ _ (@pe_callB _ _ _ _ _ _ _ _ _ (@call_isinst _ ("int")) rfl B.iisinstance PyProof.Rows.boot_isinstance (@pa_cons _ _ _ _ _ (@pv _ 0 _ _ (by rfl) (by first | exact Or.inl rfl | exact Or.inr ( Or.inl rfl ) | exact Or.inr ( Or.inr rfl )) (by decide) (by decide)) (@pa_cons _ _ _ _ _ (@pe_bltn _ _ (.ty "int") _ _ rfl B.iint PyProof.Rows.boot_int rfl (by decide) (by decide)) pa_nil (by rfl)) (by rfl)) (by decide) (by decide) (by rfl) (by rfl)) (@pe_one _ _ _ _ _ (@pe_not _ _ _ _ (@pe_callB _ _ _ _ _ _ _ _ _ (@call_isinst _ ("bool")) rfl B.iisinstance PyProof.Rows.boot_isinstance (@pa_cons _ _ _ _ _ (@pv _ 0 _ _ (by rfl) (by first | exact Or.inl rfl | exact Or.inr ( Or.inl rfl ) | exact Or.inr ( Or.inr rfl )) (by decide) (by decide)) (@pa_cons _ _ _ _ _ (@pe_bltn _ _ (.ty "bool") _ _ rfl B.ibool PyProof.Rows.boot_bool rfl (by decide) (by decide)) pa_nil (by rfl)) (by rfl)) (by decide) (by decide) (by rfl) (by rfl))))))), ?_⟩
  cases ty with
  | non => exact ⟨_, rfl, _, _, false, rfl, .non, rfl, false, rfl, iteF q⟩
  | bl y => exact ⟨_, rfl, _, _, true, rfl, .bl y, rfl, true, rfl, iteT ⟨_, rfl, _, _, true, rfl, .bl y, rfl, true, rfl, q⟩⟩
  | int i => exact ⟨_, rfl, _, _, true, rfl, .int i, rfl, true, rfl, iteT ⟨_, rfl, _, _, false, rfl, .int i, rfl, false, rfl, q⟩⟩
  | str y => exact ⟨_, rfl, _, _, false, rfl, .str y, rfl, false, rfl, iteF q⟩
  | flt y => exact ⟨_, rfl, _, _, false, rfl, .flt y, rfl, false, rfl, iteF q⟩
  | lst e => exact ⟨_, rfl, _, _, false, rfl, .lst e, rfl, false, rfl, iteF q⟩
  | frz e => exact ⟨_, rfl, _, _, false, rfl, .frz e, rfl, false, rfl, iteF q⟩
  | tup e => exact ⟨_, rfl, _, _, false, rfl, .tup e, rfl, false, rfl, iteF q⟩
  | dK e => exact ⟨_, rfl, _, _, false, rfl, .dK e, rfl, false, rfl, iteF q⟩
  | dT e => exact ⟨_, rfl, _, _, false, rfl, .dT e, rfl, false, rfl, iteF q⟩
def isSg (z : Str) : Bool := inV (.str z) [.str "+", .str "-", .str "*"]
def spSign : Sp := fun vs H Q _ => ∃ z, vs = [.str z] ∧ Q (.bl (isSg z)) H
abbrev s_is_sign : Stmt := top 21
theorem sc_is_sign : FnScope ["thing"] ["thing"] (defScope s_is_sign) := ⟨rfl, rfl, rfl, by decide +kernel, rfl, by decide +kernel, by decide +kernel⟩
theorem ok_is_sign {tk : Tok} {aS : Addr} (F : Fun K "is_sign" "is_sign" s_is_sign f fd) (B : Bu K mg) (B' : Co K mg tk aS) : FnOk P w K mg base CX0 1 f fd ["thing"] spSign := by
  refine F.ok sc_is_sign (fun vs H Q E h => ?_) (fun cdv A outer s H vs Q E hr h => ?_)
  · obtain ⟨x, rfl, _⟩ := h
    rfl
  obtain ⟨z, rfl, q⟩ := h
  refine ⟨_, (pss_one (ps_ret (pe_and (pe_callB (call_isinst (n := "str")) rfl B.iisinstance PyProof.Rows.boot_isinstance (pa_cons (pv 0) (pa_cons (pe_bltn (v := .ty "str") rfl B.istr PyProof.Rows.boot_str rfl) pa_nil))) (pe_one (pe_cmpR op_in_seq (pv 0) (pe_glob (v := .ref aS) rfl B'.gSIGNS rfl) (by with_unfolding_all rfl)))))), ?_⟩
  exact ⟨_, rfl, _, _, true, rfl, .str z, rfl, true, rfl, iteT ⟨_, rfl, aS, _, rfl, .inr (B'.sSIGNS H), rfl, rfl, q⟩⟩
end
end Put
set_option Elab.async false
set_option linter.all false
set_option maxRecDepth 100000
set_option maxHeartbeats 4000000
namespace Put
open PySem L2
section
variable {P : Program} {w : World} {K : PySem.W.Frag} {mg : Str → Option Value} {base : Heap} {f : Addr} {fd : FuncData}
theorem last_at {α : Type} (xs : List α) (x : α) : (xs ++ [x])[(xs ++ [x]).length - 1]? = some x := by simp
theorem trunc (xs : List V) (x : V) : (xs ++ [x]).dropLast = xs := by simp
theorem le_line {n : Nat} (h : n ≤ 1000) : n ≤ sizeLine := Nat.le_of_lt (small1000 h)
abbrev s_is_way : Stmt := top 22
theorem sc_is_way : FnScope ["thing", "waiting", "numbers", "part"] ["thing"] (defScope s_is_way) := ⟨rfl, rfl, rfl, by decide +kernel, rfl, by decide +kernel, by decide +kernel⟩
def Wy.nums : Wy → List Int
  | .num i => [i]
  | .node _ l r => l.nums ++ r.nums
theorem Wy.nums_len : ∀ w : Wy, w.nums.length = w.size
  | .num _ => rfl
  | .node _ l r => by show (l.nums ++ r.nums).length = l.size + r.size; rw [List.length_append, l.nums_len, r.nums_len]
def Wy.deep : Wy → Nat
  | .num _ => 1
  | .node _ l r => max l.deep r.deep + 1
theorem Wy.deep_le : ∀ w : Wy, w.deep ≤ w.size
  | .num _ => Nat.le_refl _
  | .node _ l r => by have a := l.deep_le; have b := r.deep_le; have c := l.size_pos; have d := r.size_pos; show max l.deep r.deep + 1 ≤ l.size + r.size; omega
def spNums (n : Nat) : Sp := fun vs H Q _ => ∃ w v, vs = [v] ∧ WyIn H w v ∧ w.size ≤ 20 ∧ w.deep ≤ n ∧ ∀ p H', Same H H' → H p = none → H' p = some (.lst (w.nums.map V.int)) → Q (.ref p) H'
abbrev s_list_numbers : Stmt := top 28
theorem sc_list_numbers : FnScope ["way", "sign", "left", "right"] ["way"] (defScope s_list_numbers) := ⟨rfl, rfl, rfl, by decide +kernel, rfl, by decide +kernel, by decide +kernel⟩
theorem ok_list_numbers (F : Fun K "list_numbers" "list_numbers" s_list_numbers f fd) (bF : Binds K fd ["way"] []) (mF : mg "list_numbers" = some (.ref f)) (C_is_whole : Cal P w K mg base "is_whole" 1 ["thing"] (spWhole K)) :
    ∀ n, FnOk P w K mg base CX0 (n + 1) f fd ["way"] (spNums n) := by
  intro n
  induction n with
  | zero =>
    refine ⟨fun vs H Q E h => ?_, fun A outer s H args us vs Q E _ _ _ _ h => ?_⟩
    · obtain ⟨x, v, rfl, _⟩ := h
      rfl
    · obtain ⟨wy, v, _, _, _, hd, _⟩ := h
      cases wy <;> exact absurd hd (by simp [Wy.deep])
  | succ n ih =>
    have C_list_numbers : Cal P w K mg base "list_numbers" (n + 1) ["way"] (spNums n) := ⟨f, fd, ih, bF, F.kp, mF⟩
    refine F.ok sc_list_numbers (fun vs H Q E h => ?_) (fun cdv A outer s H vs Q E hr h => ?_)
    · obtain ⟨x, v, rfl, _⟩ := h
      rfl
    obtain ⟨wy, v, rfl, hw, h20, hd, q⟩ := h
    refine ⟨_, (@pss_cons _ _ _ _ _ (@ps_if _ _ _ _ _ _ _ _ (@pt_val _ _ _ (@pe_cal _ _ _ _ _ _ _ _ _ _ _ C_is_whole hr (by omega) rfl (@pa_cons _ _ _ _ _ (@pv _ 0 _ _ (by rfl) (by first | exact Or.inl rfl | exact Or.inr ( Or.inl rfl ) | exact Or.inr ( Or.inr rfl )) (by decide) (by decide)) pa_nil (by rfl)) (by decide) (by rfl) (by rfl)) (by intro _; rfl)) (@pss_one _ _ _ (@ps_ret _ _ _ _ (@pe_lst _ _ _ _ (@pa_cons _ _ _ _ _ (@pv _ 0 _ _ (by rfl) (by first | exact Or.inl rfl | exact Or.inr ( Or.inl rfl ) | exact Or.inr ( Or.inr rfl )) (by decide) (by decide)) pa_nil (by rfl))))) pss_nil) (@pss_cons _ _ _ _ _ (@ps_asg _ _ _ _ _ _ (@pv _ 0 _ _ (by rfl) (by first | exact Or.inl rfl | exact Or.inr ( Or.inl rfl ) | exact Or.inr ( Or.inr rfl )) (by decide) (by decide)) (@pg_tup _ _ _ _ _ _ rfl (@pgs_cons _ _ _ _ _ (@pg_name _ _ (1) _ (sc_list_numbers).nd rfl (Or.inl rfl) (by first | exact .inl rfl | exact .inr rfl | assumption)) (@pgs_cons _ _ _ _ _ (@pg_name _ _ (2) _ (sc_list_numbers).nd rfl (Or.inl rfl) (by first | exact .inl rfl | exact .inr rfl | assumption)) (@pgs_cons _ _ _ _ _ (@pg_name _ _ (3) _ (sc_list_numbers).nd rfl (Or.inl rfl) (by first | exact .inl rfl | exact .inr rfl | assumption)) pgs_nil (by rfl)) (by rfl)) (by rfl)) (by rfl) (by rfl)) (by rfl) (by rfl) (by rfl)) (@pss_one _ _ _ (@ps_ret _ _ _ _ (@pe_op _ _ _ _ _ _ _ _ op_cat (@pe_cal _ _ _ _ _ _ _ _ _ _ _ C_list_numbers hr (by omega) rfl (@pa_cons _ _ _ _ _ (@pv _ 2 _ _ (by rfl) (by first | exact Or.inl rfl | exact Or.inr ( Or.inl rfl ) | exact Or.inr ( Or.inr rfl )) (by decide) (by decide)) pa_nil (by rfl)) (by decide) (by rfl) (by rfl)) (@pe_cal _ _ _ _ _ _ _ _ _ _ _ C_list_numbers hr (by omega) rfl (@pa_cons _ _ _ _ _ (@pv _ 3 _ _ (by rfl) (by first | exact Or.inl rfl | exact Or.inr ( Or.inl rfl ) | exact Or.inr ( Or.inr rfl )) (by decide) (by decide)) pa_nil (by rfl)) (by decide) (by rfl) (by rfl))))))), ?_⟩
    cases wy with
    | num i =>
      cases hw
      refine ⟨_, rfl, _, "int", rfl, .int i, true, rfl, iteT ⟨_, rfl, (by show 1 ≤ sizeLine; decide), fun p hp => ?_⟩⟩
      exact q p _ (Same.new hp _) hp upd_same
    | node g l r =>
      obtain ⟨a, vl, vr, rfl, ha, hl, hr'⟩ := hw
      refine ⟨_, rfl, _, "tuple", rfl, .tup ha, false, rfl, iteF ?_⟩
      have d : max l.deep r.deep + 1 ≤ n + 1 := hd
      have z : l.size + r.size ≤ 20 := h20
      have zl := l.size_pos; have zr := r.size_pos
      refine ⟨_, rfl, a, _, rfl, SqT.of ha, rfl, _, _, rfl, _, _, rfl, _, _, rfl, rfl, ?_⟩
      refine ⟨_, rfl, l, vl, rfl, hl, by omega, by omega, fun p H1 g1 n1 e1 => ?_⟩
      refine ⟨_, rfl, r, vr, rfl, hr'.mono (Tups.of g1), by omega, by omega, fun p2 H2 g2 n2 e2 => ?_⟩
      refine ⟨p, p2, _, _, rfl, rfl, g2 _ _ e1, e2, le_line (by rw [List.length_map, List.length_map, l.nums_len, r.nums_len]; omega), fun p3 n3 => ?_⟩
      refine q p3 _ ((g1.trans g2).trans (Same.new n3 _)) ((g1.trans g2).free n3) ?_
      rw [upd_same]
      show some (HO.lst (l.nums.map V.int ++ r.nums.map V.int)) = some (HO.lst ((l.nums ++ r.nums).map V.int))
      rw [List.map_append]
def Wy.sgs : Wy → List Sg
  | .num _ => []
  | .node g l r => l.sgs ++ g :: r.sgs
def sgText : List Sg → Str
  | [] => ""
  | g :: r => g.str ++ sgText r
theorem str_nil_app (x : Str) : ("" : Str) ++ x = x := by
  cases x with | mk c => show Str.mk (#[] ++ c) = _; simp
theorem str_assoc (x y z : Str) : x ++ y ++ z = x ++ (y ++ z) := by
  obtain ⟨a⟩ := x; obtain ⟨b⟩ := y; obtain ⟨c⟩ := z
  show Str.mk ((a ++ b) ++ c) = Str.mk (a ++ (b ++ c))
  rw [Array.append_assoc]
theorem sgText_app : ∀ xs ys : List Sg, sgText (xs ++ ys) = sgText xs ++ sgText ys
  | [], ys => (str_nil_app _).symm
  | g :: r, ys => by show g.str ++ sgText (r ++ ys) = g.str ++ sgText r ++ sgText ys; rw [sgText_app r ys, str_assoc]
theorem sg_len (g : Sg) : g.str.length = 1 := by cases g <;> rfl
theorem str_len (x y : Str) : (x ++ y).length = x.length + y.length := by
  cases x; cases y
  show (_ ++ _ : Array Nat).size = _
  rw [Array.size_append]; rfl
theorem sgText_len : ∀ xs : List Sg, (sgText xs).length = xs.length
  | [] => rfl
  | g :: r => by show (g.str ++ sgText r).length = r.length + 1; rw [str_len, sg_len, sgText_len r]; omega
theorem Wy.sgs_len : ∀ w : Wy, w.sgs.length + 1 = w.size
  | .num _ => rfl
  | .node g l r => by have a := l.sgs_len; have b := r.sgs_len; show (l.sgs ++ g :: r.sgs).length + 1 = l.size + r.size; rw [List.length_append, List.length_cons]; omega
def spSgs (n : Nat) : Sp := fun vs H Q _ => ∃ w v, vs = [v] ∧ WyIn H w v ∧ w.size ≤ 20 ∧ w.deep ≤ n ∧ ∀ H', Same H H' → Q (.str (sgText w.sgs)) H'
abbrev s_join_signs : Stmt := top 30
theorem sc_join_signs : FnScope ["way", "sign", "left", "right"] ["way"] (defScope s_join_signs) := ⟨rfl, rfl, rfl, by decide +kernel, rfl, by decide +kernel, by decide +kernel⟩
theorem ok_join_signs (F : Fun K "join_signs" "join_signs" s_join_signs f fd) (bF : Binds K fd ["way"] []) (mF : mg "join_signs" = some (.ref f)) (C_is_whole : Cal P w K mg base "is_whole" 1 ["thing"] (spWhole K)) :
    ∀ n, FnOk P w K mg base CX0 (n + 1) f fd ["way"] (spSgs n) := by
  intro n
  induction n with
  | zero =>
    refine ⟨fun vs H Q E h => ?_, fun A outer s H args us vs Q E _ _ _ _ h => ?_⟩
    · obtain ⟨x, v, rfl, _⟩ := h
      rfl
    · obtain ⟨wy, v, _, _, _, hd, _⟩ := h
      cases wy <;> exact absurd hd (by simp [Wy.deep])
  | succ n ih =>
    have C_join_signs : Cal P w K mg base "join_signs" (n + 1) ["way"] (spSgs n) := ⟨f, fd, ih, bF, F.kp, mF⟩
    refine F.ok sc_join_signs (fun vs H Q E h => ?_) (fun cdv A outer s H vs Q E hr h => ?_)
    · obtain ⟨x, v, rfl, _⟩ := h
      rfl
    obtain ⟨wy, v, rfl, hw, h20, hd, q⟩ := h
    refine ⟨_, (@pss_cons _ _ _ _ _ (@ps_if _ _ _ _ _ _ _ _ (@pt_val _ _ _ (@pe_cal _ _ _ _ _ _ _ _ _ _ _ C_is_whole hr (by omega) rfl (@pa_cons _ _ _ _ _ (@pv _ 0 _ _ (by rfl) (by first | exact Or.inl rfl | exact Or.inr ( Or.inl rfl ) | exact Or.inr ( Or.inr rfl )) (by decide) (by decide)) pa_nil (by rfl)) (by decide) (by rfl) (by rfl)) (by intro _; rfl)) (@pss_one _ _ _ (@ps_ret _ _ _ _ pe_str)) pss_nil) (@pss_cons _ _ _ _ _ (@ps_asg _ _ _ _ _ _ (@pv _ 0 _ _ (by rfl) (by first | exact Or.inl rfl | exact Or.inr ( Or.inl rfl ) | exact Or.inr ( Or.inr rfl )) (by decide) (by decide)) (@pg_tup _ _ _ _ _ _ rfl (@pgs_cons _ _ _ _ _ (@pg_name _ _ (1) _ (sc_join_signs).nd rfl (Or.inl rfl) (by first | exact .inl rfl | exact .inr rfl | assumption)) (@pgs_cons _ _ _ _ _ (@pg_name _ _ (2) _ (sc_join_signs).nd rfl (Or.inl rfl) (by first | exact .inl rfl | exact .inr rfl | assumption)) (@pgs_cons _ _ _ _ _ (@pg_name _ _ (3) _ (sc_join_signs).nd rfl (Or.inl rfl) (by first | exact .inl rfl | exact .inr rfl | assumption)) pgs_nil (by rfl)) (by rfl)) (by rfl)) (by rfl) (by rfl)) (by rfl) (by rfl) (by rfl)) (@pss_one _ _ _ (@ps_ret _ _ _ _ (@pe_op _ _ _ _ _ _ _ _ op_add_str (@pe_op _ _ _ _ _ _ _ _ op_add_str (@pe_cal _ _ _ _ _ _ _ _ _ _ _ C_join_signs hr (by omega) rfl (@pa_cons _ _ _ _ _ (@pv _ 2 _ _ (by rfl) (by first | exact Or.inl rfl | exact Or.inr ( Or.inl rfl ) | exact Or.inr ( Or.inr rfl )) (by decide) (by decide)) pa_nil (by rfl)) (by decide) (by rfl) (by rfl)) (@pv _ 1 _ _ (by rfl) (by first | exact Or.inl rfl | exact Or.inr ( Or.inl rfl ) | exact Or.inr ( Or.inr rfl )) (by decide) (by decide))) (@pe_cal _ _ _ _ _ _ _ _ _ _ _ C_join_signs hr (by omega) rfl (@pa_cons _ _ _ _ _ (@pv _ 3 _ _ (by rfl) (by first | exact Or.inl rfl | exact Or.inr ( Or.inl rfl ) | exact Or.inr ( Or.inr rfl )) (by decide) (by decide)) pa_nil (by rfl)) (by decide) (by rfl) (by rfl))))))), ?_⟩
    cases wy with
    | num i =>
      cases hw
      exact ⟨_, rfl, _, "int", rfl, .int i, true, rfl, iteT (q H (Same.refl H))⟩
    | node g l r =>
      obtain ⟨a, vl, vr, rfl, ha, hl, hr'⟩ := hw
      refine ⟨_, rfl, _, "tuple", rfl, .tup ha, false, rfl, iteF ?_⟩
      have d : max l.deep r.deep + 1 ≤ n + 1 := hd
      have z : l.size + r.size ≤ 20 := h20
      have zl := l.size_pos; have zr := r.size_pos
      have sl := l.sgs_len; have sr := r.sgs_len
      refine ⟨_, rfl, a, _, rfl, SqT.of ha, rfl, _, _, rfl, _, _, rfl, _, _, rfl, rfl, ?_⟩
      refine ⟨_, rfl, l, vl, rfl, hl, by omega, by omega, fun H1 g1 => ?_⟩
      refine ⟨_, rfl, _, _, rfl, rfl, le_line (by rw [sgText_len, sg_len]; omega), ?_⟩
      refine ⟨_, rfl, r, vr, rfl, hr'.mono (Tups.of g1), by omega, by omega, fun H2 g2 => ?_⟩
      refine ⟨_, _, rfl, rfl, le_line (by rw [str_len, sgText_len, sg_len, sgText_len]; omega), ?_⟩
      have e : sgText (l.sgs ++ g :: r.sgs) = sgText l.sgs ++ g.str ++ sgText r.sgs := by rw [sgText_app, str_assoc]; rfl
      have q' := q H2 (g1.trans g2)
      show Q (.str (sgText l.sgs ++ g.str ++ sgText r.sgs)) H2
      rw [← e]
      exact q'
end
end Put
set_option Elab.async false
set_option linter.all false
set_option maxRecDepth 100000
set_option maxHeartbeats 4000000
namespace Put
open PySem L2
def Wel (H : Hp) (w : Addr) (M : Int) : Prop := ∃ a b c, H w = some (.lst [.int a, .int b, .int c]) ∧ 0 ≤ c ∧ c ≤ M
theorem Wel.keep {H H' : Hp} {w : Addr} {M M' : Int} (h : Wel H w M) (s : Same H H') (m : M ≤ M') : Wel H' w M' := by
  obtain ⟨a, b, c, e, h0, h1⟩ := h
  exact ⟨a, b, c, s _ _ e, h0, by omega⟩
theorem Wel.more {H : Hp} {w : Addr} {M M' : Int} (h : Wel H w M) (m : M ≤ M') : Wel H w M' := h.keep (Same.refl H) m
theorem But.free {w p : Addr} {H H' : Hp} {M : Int} (b : But w H H') (h : Wel H' w M) (n : H' p = none) : H p = none := by
  cases q : H p with
  | none => rfl
  | some o =>
    by_cases e : p = w
    · subst e
      obtain ⟨_, _, _, z, _⟩ := h
      rw [z] at n; cases n
    · rw [b p o e q] at n; cases n
theorem Wel.ne {w p : Addr} {H : Hp} {M : Int} (h : Wel H w M) (n : H p = none) : p ≠ w := fun e => by
  subst e
  obtain ⟨_, _, _, z, _⟩ := h
  rw [z] at n; cases n
theorem Wel.tups {w : Addr} {H H' : Hp} {M : Int} (h : Wel H w M) (b : But w H H') : Tups H H' := by
  obtain ⟨_, _, _, z, _⟩ := h
  exact Tups.but b z
section
variable {P : Program} {w : World} {K : PySem.W.Frag} {mg : Str → Option Value} {base : Heap} {f : Addr} {fd : FuncData}
theorem mod_b (x m : Int) (h : 0 < m) : 0 ≤ x % m ∧ x % m < m := ⟨Int.emod_nonneg x (by omega), Int.emod_lt_of_pos x h⟩
def spMixed : Sp := fun vs H Q _ => ∃ cell k, vs = [.int cell, .int k] ∧ 0 ≤ k ∧ k ≤ 1000000000 ∧ ∀ r, 0 ≤ r → Q (.int r) H
abbrev s__law_mixed : Stmt := top 49
theorem sc__law_mixed : FnScope ["cell", "k", "number"] ["cell", "k"] (defScope s__law_mixed) := ⟨rfl, rfl, rfl, by decide +kernel, rfl, by decide +kernel, by decide +kernel⟩
theorem ok_mixed (F : Fun K "_law_mixed" "_law_mixed" s__law_mixed f fd) : FnOk P w K mg base CX0 1 f fd ["cell", "k"] spMixed := by
  refine F.ok sc__law_mixed (fun vs H Q E h => ?_) (fun cdv A outer s H vs Q E hr h => ?_)
  · obtain ⟨x, v, rfl, _⟩ := h
    rfl
  obtain ⟨cell, k, rfl, h0, h1, q⟩ := h
  refine ⟨_, (@pss_cons _ _ _ _ _ (@ps_set _ _ (2) _ _ _ _ (sc__law_mixed).nd rfl (Or.inl rfl) (@pe_op _ _ _ _ _ _ _ _ op_mod (@pe_op _ _ _ _ _ _ _ _ op_add (@pe_op _ _ _ _ _ _ _ _ op_add (@pe_op _ _ _ _ _ _ _ _ op_mod (@pv _ 0 _ _ (by rfl) (by first | exact Or.inl rfl | exact Or.inr ( Or.inl rfl ) | exact Or.inr ( Or.inr rfl )) (by decide) (by decide)) pe_int) (@pe_op _ _ _ _ _ _ _ _ op_mul (@pe_op _ _ _ _ _ _ _ _ op_mul pe_int (@pv _ 1 _ _ (by rfl) (by first | exact Or.inl rfl | exact Or.inr ( Or.inl rfl ) | exact Or.inr ( Or.inr rfl )) (by decide) (by decide))) (@pv _ 1 _ _ (by rfl) (by first | exact Or.inl rfl | exact Or.inr ( Or.inl rfl ) | exact Or.inr ( Or.inr rfl )) (by decide) (by decide)))) (@pe_op _ _ _ _ _ _ _ _ op_mul pe_int (@pv _ 1 _ _ (by rfl) (by first | exact Or.inl rfl | exact Or.inr ( Or.inl rfl ) | exact Or.inr ( Or.inr rfl )) (by decide) (by decide)))) pe_int) (by rfl) (by first | exact .inl rfl | exact .inr rfl | assumption)) (@pss_cons _ _ _ _ _ (@ps_set _ _ (2) _ _ _ _ (sc__law_mixed).nd rfl (Or.inl rfl) (@pe_op _ _ _ _ _ _ _ _ op_mod (@pe_op _ _ _ _ _ _ _ _ op_mul (@pv _ 2 _ _ (by rfl) (by first | exact Or.inl rfl | exact Or.inr ( Or.inl rfl ) | exact Or.inr ( Or.inr rfl )) (by decide) (by decide)) (@pv _ 2 _ _ (by rfl) (by first | exact Or.inl rfl | exact Or.inr ( Or.inl rfl ) | exact Or.inr ( Or.inr rfl )) (by decide) (by decide))) pe_int) (by rfl) (by first | exact .inl rfl | exact .inr rfl | assumption)) (@pss_one _ _ _ (@ps_ret _ _ _ _ (@pe_op _ _ _ _ _ _ _ _ op_fdivB (@pe_op _ _ _ _ _ _ _ _ op_mod (@pe_op _ _ _ _ _ _ _ _ op_mul (@pv _ 2 _ _ (by rfl) (by first | exact Or.inl rfl | exact Or.inr ( Or.inl rfl ) | exact Or.inr ( Or.inr rfl )) (by decide) (by decide)) (@pe_op _ _ _ _ _ _ _ _ op_add (@pv _ 2 _ _ (by rfl) (by first | exact Or.inl rfl | exact Or.inr ( Or.inl rfl ) | exact Or.inr ( Or.inr rfl )) (by decide) (by decide)) pe_int)) pe_int) pe_int))))), ?_⟩
  refine ⟨_, rfl, _, _, rfl, rfl, (show (0 : Int) < 2147483629 by decide), _, rfl, _, _, rfl, rfl, .inl ⟨by decide, by decide⟩, _, rfl, _, _, rfl, rfl, .inr ⟨by omega, by omega⟩, _, _, rfl, rfl, _, rfl, _, _, rfl, rfl, .inl ⟨by decide, by decide⟩,
    _, _, rfl, rfl, _, _, rfl, rfl, (show (0 : Int) < 2147483629 by decide), ?_⟩
  have hb := mod_b (cell % 2147483629 + 1000003 * k * k + 7919 * k) 2147483629 (by decide)
  revert hb
  generalize (cell % 2147483629 + 1000003 * k * k + 7919 * k) % 2147483629 = n1
  intro hb
  refine ⟨_, rfl, _, rfl, _, _, rfl, rfl, .inl ⟨by omega, by omega⟩, _, _, rfl, rfl, (show (0 : Int) < 2147483587 by decide), ?_⟩
  have hc := mod_b (n1 * n1) 2147483587 (by decide)
  revert hc
  generalize n1 * n1 % 2147483587 = n2
  intro hc
  refine ⟨_, rfl, _, rfl, _, _, rfl, rfl, _, _, rfl, rfl, .inl ⟨by omega, by omega⟩, _, _, rfl, rfl, (show (0 : Int) < 2147483563 by decide), _, _, rfl, rfl, ⟨by decide, by decide⟩, ?_⟩
  have hd := mod_b (n2 * (n2 + 40961)) 2147483563 (by decide)
  exact q _ (by omega)
def spWell : Sp := fun vs H Q _ => ∃ cell, vs = [.int cell] ∧ ∀ p a b H', Same H H' → H p = none → H' p = some (.lst [.int a, .int b, .int 0]) → Q (.ref p) H'
abbrev s__law_well : Stmt := top 50
theorem sc__law_well : FnScope ["cell"] ["cell"] (defScope s__law_well) := ⟨rfl, rfl, rfl, by decide +kernel, rfl, by decide +kernel, by decide +kernel⟩
theorem ok_well (F : Fun K "_law_well" "_law_well" s__law_well f fd) (B : Bu K mg) : FnOk P w K mg base CX0 1 f fd ["cell"] spWell := by
  refine F.ok sc__law_well (fun vs H Q E h => ?_) (fun cdv A outer s H vs Q E hr h => ?_)
  · obtain ⟨x, rfl, _⟩ := h
    rfl
  obtain ⟨cell, rfl, q⟩ := h
  refine ⟨_, (@pss_one _ _ _ (@ps_ret _ _ _ _ (@pe_lst _ _ _ _ (@pa_cons _ _ _ _ _ (@pe_op _ _ _ _ _ _ _ _ op_mul (@pv _ 0 _ _ (by rfl) (by first | exact Or.inl rfl | exact Or.inr ( Or.inl rfl ) | exact Or.inr ( Or.inr rfl )) (by decide) (by decide)) (@pe_callTy _ _ _ _ _ _ _ _ _ call_int1 rfl B.iint PyProof.Rows.boot_int (@pa_cons _ _ _ _ _ (@pe_cmpR _ _ _ _ _ _ _ _ op_ge (@pv _ 0 _ _ (by rfl) (by first | exact Or.inl rfl | exact Or.inr ( Or.inl rfl ) | exact Or.inr ( Or.inr rfl )) (by decide) (by decide)) (@pe_op _ _ _ _ _ _ _ _ op_pow pe_int pe_int) (nomark _)) pa_nil (by rfl)) (by decide) (by decide) (by rfl) (by rfl))) (@pa_cons _ _ _ _ _ (@pv _ 0 _ _ (by rfl) (by first | exact Or.inl rfl | exact Or.inr ( Or.inl rfl ) | exact Or.inr ( Or.inr rfl )) (by decide) (by decide)) (@pa_cons _ _ _ _ _ pe_int pa_nil (by rfl)) (by rfl)) (by rfl))))), ?_⟩
  refine ⟨_, rfl, _, rfl, _, _, rfl, rfl, ⟨by decide, by decide, by decide⟩, _, _, rfl, rfl, .inr ⟨_, rfl, _, _, rfl, rfl, .inr ?_, _, rfl, (by show 3 ≤ sizeLine; decide), fun p hp => q p _ _ _ (Same.new hp _) hp upd_same⟩⟩
  constructor <;> split <;> decide
def spDraw : Sp := fun vs H Q _ => ∃ w m M, vs = [.ref w, .int m] ∧ 0 < m ∧ m < 2 ^ 63 ∧ Wel H w M ∧ M < 1000000000 ∧ ∀ r H', 0 ≤ r → r < m → But w H H' → Wel H' w (M + 1) → Q (.int r) H'
abbrev s__law_draw : Stmt := top 51
theorem sc__law_draw : FnScope ["well", "many", "got"] ["well", "many"] (defScope s__law_draw) := ⟨rfl, rfl, rfl, by decide +kernel, rfl, by decide +kernel, by decide +kernel⟩
theorem ok_draw (F : Fun K "_law_draw" "_law_draw" s__law_draw f fd) (C__law_mixed : Cal P w K mg base "_law_mixed" 1 ["cell", "k"] spMixed) : FnOk P w K mg base CX0 2 f fd ["well", "many"] spDraw := by
  refine F.ok sc__law_draw (fun vs H Q E h => ?_) (fun cdv A outer s H vs Q E hr h => ?_)
  · obtain ⟨x, m, M, rfl, _⟩ := h
    rfl
  obtain ⟨wl, m, M, rfl, h0, h1, ⟨a, b, c, e, c0, c1⟩, hM, q⟩ := h
  refine ⟨_, (@pss_cons _ _ _ _ _ (@ps_if _ _ _ _ _ _ _ _ (@pt_cmpR _ _ _ _ _ _ _ _ op_gt (@pe_ix _ _ _ _ _ _ _ ix_list (@pv _ 0 _ _ (by rfl) (by first | exact Or.inl rfl | exact Or.inr ( Or.inl rfl ) | exact Or.inr ( Or.inr rfl )) (by decide) (by decide)) pe_int (fun _ _ => rfl)) pe_int (nomark _)) (@pss_cons _ _ _ _ _ (@ps_set _ _ (2) _ _ _ _ (sc__law_draw).nd rfl (Or.inl rfl) (@pe_op _ _ _ _ _ _ _ _ op_mod (@pe_ix _ _ _ _ _ _ _ ix_list (@pv _ 0 _ _ (by rfl) (by first | exact Or.inl rfl | exact Or.inr ( Or.inl rfl ) | exact Or.inr ( Or.inr rfl )) (by decide) (by decide)) pe_int (fun _ _ => rfl)) (@pv _ 1 _ _ (by rfl) (by first | exact Or.inl rfl | exact Or.inr ( Or.inl rfl ) | exact Or.inr ( Or.inr rfl )) (by decide) (by decide))) (by rfl) (by first | exact .inl rfl | exact .inr rfl | assumption)) (@pss_cons _ _ _ _ _ (@ps_asg _ _ _ _ _ _ (@pe_op _ _ _ _ _ _ _ _ op_fdivB (@pe_ix _ _ _ _ _ _ _ ix_list (@pv _ 0 _ _ (by rfl) (by first | exact Or.inl rfl | exact Or.inr ( Or.inl rfl ) | exact Or.inr ( Or.inr rfl )) (by decide) (by decide)) pe_int (fun _ _ => rfl)) (@pv _ 1 _ _ (by rfl) (by first | exact Or.inl rfl | exact Or.inr ( Or.inl rfl ) | exact Or.inr ( Or.inr rfl )) (by decide) (by decide))) (@pg_sub _ _ _ _ _ _ _ (@pv _ 0 _ _ (by rfl) (by first | exact Or.inl rfl | exact Or.inr ( Or.inl rfl ) | exact Or.inr ( Or.inr rfl )) (by decide) (by decide)) pe_int set_list (by intro _; rfl)) (by rfl) (by rfl) (by rfl)) (@pss_one _ _ _ (@ps_ret _ _ _ _ (@pv _ 2 _ _ (by rfl) (by first | exact Or.inl rfl | exact Or.inr ( Or.inl rfl ) | exact Or.inr ( Or.inr rfl )) (by decide) (by decide)))))) pss_nil) (@pss_cons _ _ _ _ _ (@ps_asg _ _ _ _ _ _ (@pe_op _ _ _ _ _ _ _ _ op_add (@pe_ix _ _ _ _ _ _ _ ix_list (@pv _ 0 _ _ (by rfl) (by first | exact Or.inl rfl | exact Or.inr ( Or.inl rfl ) | exact Or.inr ( Or.inr rfl )) (by decide) (by decide)) pe_int (fun _ _ => rfl)) pe_int) (@pg_sub _ _ _ _ _ _ _ (@pv _ 0 _ _ (by rfl) (by first | exact Or.inl rfl | exact Or.inr ( Or.inl rfl ) | exact Or.inr ( Or.inr rfl )) (by decide) (by decide)) pe_int set_list (by intro _; rfl)) (by rfl) (by rfl) (by rfl)) (@pss_one _ _ _ (@ps_ret _ _ _ _ (@pe_op _ _ _ _ _ _ _ _ op_mod (@pe_cal _ _ _ _ _ _ _ _ _ _ _ C__law_mixed hr (by omega) rfl (@pa_cons _ _ _ _ _ (@pe_ix _ _ _ _ _ _ _ ix_list (@pv _ 0 _ _ (by rfl) (by first | exact Or.inl rfl | exact Or.inr ( Or.inl rfl ) | exact Or.inr ( Or.inr rfl )) (by decide) (by decide)) pe_int (fun _ _ => rfl)) (@pa_cons _ _ _ _ _ (@pe_ix _ _ _ _ _ _ _ ix_list (@pv _ 0 _ _ (by rfl) (by first | exact Or.inl rfl | exact Or.inr ( Or.inl rfl ) | exact Or.inr ( Or.inr rfl )) (by decide) (by decide)) pe_int (fun _ _ => rfl)) pa_nil (by rfl)) (by rfl)) (by decide) (by rfl) (by rfl)) (@pv _ 1 _ _ (by rfl) (by first | exact Or.inl rfl | exact Or.inr ( Or.inl rfl ) | exact Or.inr ( Or.inr rfl )) (by decide) (by decide))))))), ?_⟩
  refine ⟨_, rfl, wl, _, _, _, rfl, rfl, SqL.of e, rfl, _, _, rfl, rfl, _, rfl, ite2 (fun _ => ?_) (fun _ => ?_)⟩
  · refine ⟨_, rfl, wl, _, _, _, rfl, rfl, SqL.of e, rfl, _, rfl, _, _, rfl, rfl, h0, ?_⟩
    refine ⟨_, rfl, wl, _, _, _, rfl, rfl, SqL.of e, rfl, _, rfl, _, _, rfl, rfl, ⟨h0, by omega⟩, _, rfl, wl, _, _, 0, rfl, rfl, e, rfl, ?_⟩
    refine ⟨_, rfl, ?_⟩
    have z := mod_b a m h0
    exact q _ _ z.1 z.2 But.put ⟨_, _, _, upd_same, c0, by omega⟩
  · refine ⟨_, rfl, wl, _, _, _, rfl, rfl, SqL.of e, rfl, _, _, rfl, rfl, _, rfl, wl, _, _, 2, rfl, rfl, e, rfl, ?_⟩
    refine ⟨_, rfl, wl, _, _, _, rfl, rfl, SqL.of upd_same, rfl, _, rfl, wl, _, _, _, rfl, rfl, SqL.of upd_same, rfl, _, _, rfl, by omega, by omega, fun r hr0 => ?_⟩
    refine ⟨_, rfl, _, _, rfl, rfl, h0, ?_⟩
    have z := mod_b r m h0
    exact q _ _ z.1 z.2 But.put ⟨_, _, _, upd_same, by omega, by omega⟩
def spNumber : Sp := fun vs H Q _ => ∃ w M, vs = [.ref w] ∧ Wel H w M ∧ M < 999999000 ∧ ∀ i H', -1000000000000 < i → i < 1000000000000 → But w H H' → Wel H' w (M + 7) → Q (.int i) H'
theorem at6 {a b c d e f' : Int} {k : Int} (h0 : 0 ≤ k) (h1 : k < 6) (P : Int → Prop) (pa : P a) (pb : P b) (pc : P c) (pd : P d) (pe : P e) (pf : P f') : ∃ z, atI [V.int a, .int b, .int c, .int d, .int e, .int f'] k = some (.int z) ∧ P z := by
  have : k = 0 ∨ k = 1 ∨ k = 2 ∨ k = 3 ∨ k = 4 ∨ k = 5 := by omega
  rcases this with rfl | rfl | rfl | rfl | rfl | rfl
  · exact ⟨a, rfl, pa⟩
  · exact ⟨b, rfl, pb⟩
  · exact ⟨c, rfl, pc⟩
  · exact ⟨d, rfl, pd⟩
  · exact ⟨e, rfl, pe⟩
  · exact ⟨f', rfl, pf⟩
theorem at10 {k : Int} (h0 : 0 ≤ k) (h1 : k < 10) : ∃ z : Int, atI [V.int 0, .int 0, .int 0, .int 1, .int 1, .int 2, .int 2, .int 3, .int 4, .int 5] k = some (.int z) ∧ 0 ≤ z ∧ z < 6 := by
  have : k = 0 ∨ k = 1 ∨ k = 2 ∨ k = 3 ∨ k = 4 ∨ k = 5 ∨ k = 6 ∨ k = 7 ∨ k = 8 ∨ k = 9 := by omega
  rcases this with rfl | rfl | rfl | rfl | rfl | rfl | rfl | rfl | rfl | rfl <;> exact ⟨_, rfl, by decide, by decide⟩
abbrev s__law_number : Stmt := top 52
theorem sc__law_number : FnScope ["well", "some"] ["well"] (defScope s__law_number) := ⟨rfl, rfl, rfl, by decide +kernel, rfl, by decide +kernel, by decide +kernel⟩
theorem ok_number (F : Fun K "_law_number" "_law_number" s__law_number f fd) (C__law_draw : Cal P w K mg base "_law_draw" 2 ["well", "many"] spDraw) : FnOk P w K mg base CX0 3 f fd ["well"] spNumber := by
  refine F.ok sc__law_number (fun vs H Q E h => ?_) (fun cdv A outer s H vs Q E hr h => ?_)
  · obtain ⟨x, M, rfl, _⟩ := h
    rfl
  obtain ⟨wl, M, rfl, hw, hM, q⟩ := h
  refine ⟨_, (@pss_cons _ _ _ _ _ (@ps_set _ _ (1) _ _ _ _ (sc__law_number).nd rfl (Or.inl rfl) (@pe_lst _ _ _ _ (@pa_cons _ _ _ _ _ (@pe_cal _ _ _ _ _ _ _ _ _ _ _ C__law_draw hr (by omega) rfl (@pa_cons _ _ _ _ _ (@pv _ 0 _ _ (by rfl) (by first | exact Or.inl rfl | exact Or.inr ( Or.inl rfl ) | exact Or.inr ( Or.inr rfl )) (by decide) (by decide)) (@pa_cons _ _ _ _ _ pe_int pa_nil (by rfl)) (by rfl)) (by decide) (by rfl) (by rfl)) (@pa_cons _ _ _ _ _ (@pe_cal _ _ _ _ _ _ _ _ _ _ _ C__law_draw hr (by omega) rfl (@pa_cons _ _ _ _ _ (@pv _ 0 _ _ (by rfl) (by first | exact Or.inl rfl | exact Or.inr ( Or.inl rfl ) | exact Or.inr ( Or.inr rfl )) (by decide) (by decide)) (@pa_cons _ _ _ _ _ pe_int pa_nil (by rfl)) (by rfl)) (by decide) (by rfl) (by rfl)) (@pa_cons _ _ _ _ _ (@pe_op _ _ _ _ _ _ _ _ op_sub pe_int (@pe_cal _ _ _ _ _ _ _ _ _ _ _ C__law_draw hr (by omega) rfl (@pa_cons _ _ _ _ _ (@pv _ 0 _ _ (by rfl) (by first | exact Or.inl rfl | exact Or.inr ( Or.inl rfl ) | exact Or.inr ( Or.inr rfl )) (by decide) (by decide)) (@pa_cons _ _ _ _ _ pe_int pa_nil (by rfl)) (by rfl)) (by decide) (by rfl) (by rfl))) (@pa_cons _ _ _ _ _ (@pe_cal _ _ _ _ _ _ _ _ _ _ _ C__law_draw hr (by omega) rfl (@pa_cons _ _ _ _ _ (@pv _ 0 _ _ (by rfl) (by first | exact Or.inl rfl | exact Or.inr ( Or.inl rfl ) | exact Or.inr ( Or.inr rfl )) (by decide) (by decide)) (@pa_cons _ _ _ _ _ (@pe_op _ _ _ _ _ _ _ _ op_pow pe_int pe_int) pa_nil (by rfl)) (by rfl)) (by decide) (by rfl) (by rfl)) pa_nil (by rfl)) (by rfl)) (by rfl)) (by rfl))) (by rfl) (by first | exact .inl rfl | exact .inr rfl | assumption)) (@pss_cons _ _ _ _ _ (@ps_set _ _ (1) _ _ _ _ (sc__law_number).nd rfl (Or.inl rfl) (@pe_op _ _ _ _ _ _ _ _ op_cat (@pv _ 1 _ _ (by rfl) (by first | exact Or.inl rfl | exact Or.inr ( Or.inl rfl ) | exact Or.inr ( Or.inr rfl )) (by decide) (by decide)) (@pe_lst _ _ _ _ (@pa_cons _ _ _ _ _ (@pe_op _ _ _ _ _ _ _ _ op_sub pe_int (@pe_cal _ _ _ _ _ _ _ _ _ _ _ C__law_draw hr (by omega) rfl (@pa_cons _ _ _ _ _ (@pv _ 0 _ _ (by rfl) (by first | exact Or.inl rfl | exact Or.inr ( Or.inl rfl ) | exact Or.inr ( Or.inr rfl )) (by decide) (by decide)) (@pa_cons _ _ _ _ _ (@pe_op _ _ _ _ _ _ _ _ op_pow pe_int pe_int) pa_nil (by rfl)) (by rfl)) (by decide) (by rfl) (by rfl))) (@pa_cons _ _ _ _ _ (@pe_cal _ _ _ _ _ _ _ _ _ _ _ C__law_draw hr (by omega) rfl (@pa_cons _ _ _ _ _ (@pv _ 0 _ _ (by rfl) (by first | exact Or.inl rfl | exact Or.inr ( Or.inl rfl ) | exact Or.inr ( Or.inr rfl )) (by decide) (by decide)) (@pa_cons _ _ _ _ _ pe_int pa_nil (by rfl)) (by rfl)) (by decide) (by rfl) (by rfl)) pa_nil (by rfl)) (by rfl)))) (by rfl) (by first | exact .inl rfl | exact .inr rfl | assumption)) (@pss_one _ _ _ (@ps_ret _ _ _ _ (@pe_ix _ _ _ _ _ _ _ ix_list (@pv _ 1 _ _ (by rfl) (by first | exact Or.inl rfl | exact Or.inr ( Or.inl rfl ) | exact Or.inr ( Or.inr rfl )) (by decide) (by decide)) (@pe_ix _ _ _ _ _ _ _ ix_list (@pe_lst _ _ _ _ (@pa_cons _ _ _ _ _ pe_int (@pa_cons _ _ _ _ _ pe_int (@pa_cons _ _ _ _ _ pe_int (@pa_cons _ _ _ _ _ pe_int (@pa_cons _ _ _ _ _ pe_int (@pa_cons _ _ _ _ _ pe_int (@pa_cons _ _ _ _ _ pe_int (@pa_cons _ _ _ _ _ pe_int (@pa_cons _ _ _ _ _ pe_int (@pa_cons _ _ _ _ _ pe_int pa_nil (by rfl)) (by rfl)) (by rfl)) (by rfl)) (by rfl)) (by rfl)) (by rfl)) (by rfl)) (by rfl)) (by rfl))) (@pe_cal _ _ _ _ _ _ _ _ _ _ _ C__law_draw hr (by omega) rfl (@pa_cons _ _ _ _ _ (@pv _ 0 _ _ (by rfl) (by first | exact Or.inl rfl | exact Or.inr ( Or.inl rfl ) | exact Or.inr ( Or.inr rfl )) (by decide) (by decide)) (@pa_cons _ _ _ _ _ pe_int pa_nil (by rfl)) (by rfl)) (by decide) (by rfl) (by rfl)) (fun _ _ => rfl)) (fun _ _ => rfl)))))), ?_⟩
  refine ⟨_, rfl, wl, 10, M, rfl, by decide, by decide, hw, by omega, fun r1 H1 a1 b1 g1 w1 => ?_⟩
  refine ⟨_, rfl, wl, 4, _, rfl, by decide, by decide, w1, by omega, fun r2 H2 a2 b2 g2 w2 => ?_⟩
  refine ⟨_, rfl, wl, 10, _, rfl, by decide, by decide, w2, by omega, fun r3 H3 a3 b3 g3 w3 => ⟨_, _, rfl, rfl, ?_⟩⟩
  refine ⟨_, rfl, _, _, rfl, rfl, ⟨by decide, by decide, by decide⟩, wl, 1000000000000, _, rfl, by decide, by decide, w3, by omega, fun r4 H4 a4 b4 g4 w4 => ?_⟩
  refine ⟨(by show 4 ≤ sizeLine; decide), fun p1 n1 => ?_⟩
  have w4' : Wel (upd H4 p1 (.lst [.int r1, .int r2, .int (0 - r3), .int r4])) wl _ := w4.keep (Same.new n1 _) (Int.le_refl _)
  refine ⟨_, rfl, _, rfl, _, _, rfl, rfl, ⟨by decide, by decide, by decide⟩, wl, 1000000000000, _, rfl, by decide, by decide, w4', by omega, fun r5 H5 a5 b5 g5 w5 => ⟨_, _, rfl, rfl, ?_⟩⟩
  refine ⟨_, rfl, wl, 100, _, rfl, by decide, by decide, w5, by omega, fun r6 H6 a6 b6 g6 w6 => ?_⟩
  refine ⟨(by show 2 ≤ sizeLine; decide), fun p2 n2 => ?_⟩
  have ne1 : p1 ≠ wl := w4.ne n1
  have e1 : H6 p1 = some (.lst [.int r1, .int r2, .int (0 - r3), .int r4]) := g6 _ _ ne1 (g5 _ _ ne1 upd_same)
  have w6' : Wel (upd H6 p2 (.lst [.int (0 - r5), .int r6])) wl _ := w6.keep (Same.new n2 _) (Int.le_refl _)
  refine ⟨p1, p2, _, _, rfl, rfl, Same.new n2 _ _ _ e1, upd_same, (by show 6 ≤ sizeLine; decide), fun p3 n3 => ?_⟩
  have w7 := w6'.keep (Same.new n3 (.lst ([.int r1, .int r2, .int (0 - r3), .int r4] ++ [.int (0 - r5), .int r6]))) (Int.le_refl _)
  refine ⟨_, rfl, (by show 10 ≤ sizeLine; decide), fun p4 n4 => ?_⟩
  have w8 := w7.keep (Same.new n4 (.lst [.int 0, .int 0, .int 0, .int 1, .int 1, .int 2, .int 2, .int 3, .int 4, .int 5])) (Int.le_refl _)
  refine ⟨_, rfl, wl, 10, _, rfl, by decide, by decide, w8, by omega, fun r7 H7 a7 b7 g7 w9 => ?_⟩
  have ne3 : p3 ≠ wl := w6'.ne n3
  have ne4 : p4 ≠ wl := w7.ne n4
  obtain ⟨z, hz, z0, z1⟩ := at10 a7 b7
  refine ⟨p4, _, _, _, rfl, rfl, SqL.of (g7 _ _ ne4 upd_same), hz, ?_⟩
  obtain ⟨y, hy, y0, y1⟩ := at6 (a := r1) (b := r2) (c := 0 - r3) (d := r4) (e := 0 - r5) (f' := r6) z0 z1 (fun i => -1000000000000 < i ∧ i < 1000000000000) (by omega) (by omega) (by omega) (by omega) (by omega) (by omega)
  refine ⟨p3, _, _, _, rfl, rfl, SqL.of (g7 _ _ ne3 (Same.new n4 _ _ _ upd_same)), hy, ?_⟩
  refine q y H7 y0 y1 ?_ (w9.more (by omega))
  exact ((((((((((g1.trans g2).trans g3).trans g4).trans (But.new n1 _)).trans g5).trans g6).trans (But.new n2 _)).trans (But.new n3 _)).trans (But.new n4 _)).trans g7)
end
end Put
set_option Elab.async false
set_option linter.all false
set_option maxRecDepth 100000
set_option maxHeartbeats 4000000
namespace Put
open PySem L2
section
variable {P : Program} {w : World} {K : PySem.W.Frag} {mg : Str → Option Value} {base : Heap} {f : Addr} {fd : FuncData}
def Small (ns : List Int) : Prop := ∀ i ∈ ns, -1000000000000 < i ∧ i < 1000000000000
def spRow : Sp := fun vs H Q _ => ∃ w n M, vs = [.ref w, .int n] ∧ 0 ≤ n ∧ n ≤ 20 ∧ Wel H w M ∧ M < 999990000 ∧
  ∀ p ns H', But w H H' → Wel H' w (M + 200) → H p = none → H' p = some (.lst (ns.map V.int)) → (ns.length : Int) = n → Small ns → Q (.ref p) H'
abbrev s__law_row : Stmt := top 53
theorem sc__law_row : FnScope ["well", "many"] ["well", "many"] (defScope s__law_row) := ⟨rfl, rfl, rfl, by decide +kernel, rfl, by decide +kernel, by decide +kernel⟩
theorem rep_one (i : Int) (k : Nat) : (List.replicate k [V.int i]).flatten = (List.replicate k i).map V.int := by
  induction k with
  | zero => rfl
  | succ k ih => rw [List.replicate_succ, List.flatten_cons, ih]; rfl
theorem ok_row (F : Fun K "_law_row" "_law_row" s__law_row f fd) (B : Bu K mg) (C__law_draw : Cal P w K mg base "_law_draw" 2 ["well", "many"] spDraw) (C__law_number : Cal P w K mg base "_law_number" 3 ["well"] spNumber) :
    FnOk P w K mg base CX0 4 f fd ["well", "many"] spRow := by
  refine F.ok sc__law_row (fun vs H Q E h => ?_) (fun cdv A outer s H vs Q E hr h => ?_)
  · obtain ⟨x, m, M, rfl, _⟩ := h
    rfl
  obtain ⟨wl, n, M, rfl, h0, h1, hw, hM, q⟩ := h
  refine ⟨_, (@pss_cons _ _ _ _ _ (@ps_if _ _ _ _ _ _ _ _ (@pt_cmpR _ _ _ _ _ _ _ _ op_eq (@pe_cal _ _ _ _ _ _ _ _ _ _ _ C__law_draw hr (by omega) rfl (@pa_cons _ _ _ _ _ (@pv _ 0 _ _ (by rfl) (by first | exact Or.inl rfl | exact Or.inr ( Or.inl rfl ) | exact Or.inr ( Or.inr rfl )) (by decide) (by decide)) (@pa_cons _ _ _ _ _ pe_int pa_nil (by rfl)) (by rfl)) (by decide) (by rfl) (by rfl)) pe_int (nomark _)) (@pss_one _ _ _ (@ps_ret _ _ _ _ (@pe_op _ _ _ _ _ _ _ _ op_rep (@pe_lst _ _ _ _ (@pa_cons _ _ _ _ _ (@pe_cal _ _ _ _ _ _ _ _ _ _ _ C__law_number hr (by omega) rfl (@pa_cons _ _ _ _ _ (@pv _ 0 _ _ (by rfl) (by first | exact Or.inl rfl | exact Or.inr ( Or.inl rfl ) | exact Or.inr ( Or.inr rfl )) (by decide) (by decide)) pa_nil (by rfl)) (by decide) (by rfl) (by rfl)) pa_nil (by rfl))) (@pv _ 1 _ _ (by rfl) (by first | exact Or.inl rfl | exact Or.inr ( Or.inl rfl ) | exact Or.inr ( Or.inr rfl )) (by decide) (by decide))))) pss_nil) (@pss_one _ _ _ (@ps_ret _ _ _ _ (@pe_lc _ _ _ _ _ _ _ _ (["k", "well"]) ([none, some 0]) _ _ _ _ rfl (@pi_range1 _ _ _ _ _ _ rfl B.irange (@pa_cons _ _ _ _ _ (@pv _ 1 _ _ (by rfl) (by first | exact Or.inl rfl | exact Or.inr ( Or.inl rfl ) | exact Or.inr ( Or.inr rfl )) (by decide) (by decide)) pa_nil (by rfl)) (by rfl)) rfl ⟨rfl, trivial⟩ ⟨⟨rfl, Or.inl rfl, Or.inl rfl⟩, trivial⟩ (fun _ _ _ _ => ⟨(@pg_name _ _ (0) _ (show List.Nodup (["k", "well"] : List Str) by decide +kernel) rfl (Or.inl rfl) (by first | exact .inl rfl | exact .inr rfl | assumption)), pifs_nil, (@pe_cal _ _ _ _ _ _ _ _ _ _ _ C__law_number hr (by omega) rfl (@pa_cons _ _ _ _ _ (@pv _ 1 _ _ (by rfl) (by first | exact Or.inl rfl | exact Or.inr ( Or.inl rfl ) | exact Or.inr ( Or.inr rfl )) (by decide) (by decide)) pa_nil (by rfl)) (by decide) (by rfl) (by rfl))⟩) (by rfl) (by rfl) (by rfl) (by rfl) (by intro _; rfl))))), ?_⟩
  refine ⟨_, rfl, wl, 8, M, rfl, by decide, by decide, hw, by omega, fun r1 H1 a1 b1 g1 w1 => ⟨rfl, _, rfl, ite2 (fun _ => ?_) (fun _ => ?_)⟩⟩
  · refine ⟨_, rfl, wl, _, rfl, w1, by omega, fun i H2 i0 i1 g2 w2 => ⟨(by show 1 ≤ sizeLine; decide), fun p1 n1 => ?_⟩⟩
    refine ⟨_, rfl, p1, n, _, rfl, rfl, upd_same, by omega, by omega, le_line (by show 1 * n.toNat ≤ 1000; omega), fun p2 n2 => ?_⟩
    have w3 := w2.keep (Same.new n1 (.lst [.int i])) (Int.le_refl _)
    have w4 := w3.keep (Same.new n2 (.lst (List.replicate n.toNat [V.int i]).flatten)) (Int.le_refl _)
    refine q p2 (List.replicate n.toNat i) _ (((g1.trans g2).trans (But.new n1 _)).trans (But.new n2 _)) (w4.more (by omega)) (But.free ((g1.trans g2).trans (But.new n1 (.lst [.int i]))) w3 n2) ?_ (by rw [List.length_replicate]; omega) ?_
    · rw [upd_same, rep_one]
    · intro z hz
      rw [List.eq_of_mem_replicate hz]
      exact ⟨i0, i1⟩
  · refine ⟨_, rfl, n, rfl, by omega, by omega, ?_⟩
    refine ⟨fun i m ys H' => i ≤ n.toNat ∧ m = n.toNat - i ∧ ∃ ns : List Int, ys = ns.map V.int ∧ ns.length = i ∧ Small ns ∧ But wl H H' ∧ Wel H' wl (M + 1 + 7 * i), ⟨_, Nat.zero_le _, rfl, [], rfl, rfl, (fun _ z => nomatch z), g1, w1.more (by omega)⟩, ?_⟩
    rintro i m ys H' ⟨hi, rfl, ns, rfl, hl, hs, hb, hw'⟩
    by_cases hlt : i < n.toNat
    · refine .inr ⟨hlt, small1000 (by rw [List.length_map]; omega), fun x H2 y => ?_⟩
      obtain ⟨rfl, rfl⟩ := y
      refine ⟨_, rfl, wl, _, rfl, hw', by omega, fun z H3 z0 z1 g3 w3 => ?_⟩
      refine ⟨n.toNat - (i + 1), by omega, hlt, rfl, ns ++ [z], by rw [List.map_append]; rfl, by rw [List.length_append, List.length_singleton, hl], ?_, hb.trans g3, w3.more (by omega)⟩
      intro u hu
      rcases List.mem_append.mp hu with hu | hu
      · exact hs u hu
      · rw [List.mem_singleton.mp hu]; exact ⟨z0, z1⟩
    · refine .inl ⟨Nat.not_lt.mp hlt, fun p hp => ?_⟩
      refine q p ns _ (hb.trans (But.new hp _)) ((hw'.keep (Same.new hp _) (Int.le_refl _)).more (by omega)) (But.free hb hw' hp) upd_same (by omega) hs
abbrev s__law_signs : Stmt := top 54
theorem sc__law_signs : FnScope ["well"] ["well"] (defScope s__law_signs) := ⟨rfl, rfl, rfl, by decide +kernel, rfl, by decide +kernel, by decide +kernel⟩
theorem str_toList (x y : Str) : (x ++ y).cps.toList = x.cps.toList ++ y.cps.toList := by
  obtain ⟨a⟩ := x; obtain ⟨b⟩ := y
  show (a ++ b).toList = _
  rw [Array.toList_append]
def Sg.code : Sg → Nat
  | .plus => 43
  | .minus => 45
  | .times => 42
theorem sg_str_code (g : Sg) : g.str = ⟨#[g.code]⟩ := by cases g <;> rfl
theorem sgText_codes : ∀ gs : List Sg, (sgText gs).cps.toList = gs.map Sg.code
  | [] => rfl
  | g :: r => by
    show (g.str ++ sgText r).cps.toList = g.code :: r.map Sg.code
    rw [str_toList, sgText_codes r, sg_str_code]; rfl
theorem at_sg {gs : List Sg} {k : Int} (h0 : 0 ≤ k) (h1 : k < (gs.length : Nat)) : ∃ g : Sg, atI (sgText gs).cps.toList k = some g.code ∧ g ∈ gs := by
  obtain ⟨j, rfl⟩ := Int.eq_ofNat_of_zero_le h0
  have hj : j < gs.length := by omega
  refine ⟨gs[j], atI_nat ?_, List.getElem_mem hj⟩
  rw [sgText_codes, List.getElem?_map, List.getElem?_eq_getElem hj]; rfl
def Wy.within (gs : List Sg) : Wy → Prop
  | .num _ => True
  | .node g l r => g ∈ gs ∧ l.within gs ∧ r.within gs
def spWay (n : Nat) : Sp := fun vs H Q _ => ∃ w r gs ns M, vs = [.ref w, .ref r, .str (sgText gs)] ∧ H r = some (.lst (ns.map V.int)) ∧ r ≠ w ∧ 1 ≤ ns.length ∧ ns.length ≤ n ∧ n ≤ 20 ∧ 1 ≤ gs.length ∧ gs.length ≤ 3 ∧ Wel H w M ∧ M + 4 * ns.length - 4 < 999999000 ∧
  ∀ v wy H', WyIn H' wy v → wy.nums = ns → wy.within gs → But w H H' → Wel H' w (M + 4 * ns.length - 4) → Q v H'
theorem at3 {a b c : Int} {k : Int} (h0 : 0 ≤ k) (h1 : k < 3) (P : Int → Prop) (pa : P a) (pb : P b) (pc : P c) : ∃ z, atI [V.int a, .int b, .int c] k = some (.int z) ∧ P z := by
  have : k = 0 ∨ k = 1 ∨ k = 2 := by omega
  rcases this with rfl | rfl | rfl
  · exact ⟨a, rfl, pa⟩
  · exact ⟨b, rfl, pb⟩
  · exact ⟨c, rfl, pc⟩
theorem cut_take (ns : List Int) (c : Nat) (h : c ≤ ns.length) : cutV (ns.map V.int) none (some (c : Int)) = (ns.take c).map V.int := by
  have hl : (ns.map V.int).length = ns.length := List.length_map _
  have e0 : HT.sIx ns.length 0 none = 0 := by simp [HT.sIx]
  have e1 : HT.sIx ns.length ns.length (some (c : Int)) = c := by
    simp only [HT.sIx]
    split <;> omega
  unfold cutV
  rw [hl, e0, e1, List.drop_zero, List.map_take]
  rfl
theorem cut_drop (ns : List Int) (c : Nat) (h : c ≤ ns.length) : cutV (ns.map V.int) (some (c : Int)) none = (ns.drop c).map V.int := by
  have hl : (ns.map V.int).length = ns.length := List.length_map _
  have e0 : HT.sIx ns.length ns.length none = ns.length := by simp [HT.sIx]
  have e1 : HT.sIx ns.length 0 (some (c : Int)) = c := by
    simp only [HT.sIx]
    split <;> omega
  unfold cutV
  rw [hl, e0, e1, List.map_drop, List.take_of_length_le (by rw [List.length_drop, hl]; exact Nat.le_refl _)]
abbrev s__law_way : Stmt := top 55
theorem sc__law_way : FnScope ["well", "row", "signs", "cut", "sign"] ["well", "row", "signs"] (defScope s__law_way) := ⟨rfl, rfl, rfl, by decide +kernel, rfl, by decide +kernel, by decide +kernel⟩
theorem ok_way (F : Fun K "_law_way" "_law_way" s__law_way f fd) (bF : Binds K fd ["well", "row", "signs"] []) (mF : mg "_law_way" = some (.ref f)) (B : Bu K mg) (C__law_draw : Cal P w K mg base "_law_draw" 2 ["well", "many"] spDraw) :
    ∀ n, FnOk P w K mg base CX0 (n + 2) f fd ["well", "row", "signs"] (spWay n) := by
  intro n
  induction n with
  | zero =>
    refine ⟨fun vs H Q E h => ?_, fun A outer s H args us vs Q E _ _ _ _ h => ?_⟩
    · obtain ⟨x, r, gs, ns, M, rfl, _⟩ := h
      rfl
    · obtain ⟨x, r, gs, ns, M, _, _, _, h1, h2, _⟩ := h
      omega
  | succ n ih =>
    have C__law_way : Cal P w K mg base "_law_way" (n + 2) ["well", "row", "signs"] (spWay n) := ⟨f, fd, ih, bF, F.kp, mF⟩
    refine F.ok sc__law_way (fun vs H Q E h => ?_) (fun cdv A outer s H vs Q E hr h => ?_)
    · obtain ⟨x, r, gs, ns, M, rfl, _⟩ := h
      rfl
    obtain ⟨wl, r, gs, ns, M, rfl, er, nr, h1, h2, h20, g1, g3, hw, hM, q⟩ := h
    refine ⟨_, (@pss_cons _ _ _ _ _ (@ps_if _ _ _ _ _ _ _ _ (@pt_cmpR _ _ _ _ _ _ _ _ op_eq (@pe_callB _ _ _ _ _ _ _ _ _ call_len_seq rfl B.ilen PySem.boot_len (@pa_cons _ _ _ _ _ (@pv _ 1 _ _ (by rfl) (by first | exact Or.inl rfl | exact Or.inr ( Or.inl rfl ) | exact Or.inr ( Or.inr rfl )) (by decide) (by decide)) pa_nil (by rfl)) (by decide) (by decide) (by rfl) (by rfl)) pe_int (nomark _)) (@pss_one _ _ _ (@ps_ret _ _ _ _ (@pe_ix _ _ _ _ _ _ _ ix_list (@pv _ 1 _ _ (by rfl) (by first | exact Or.inl rfl | exact Or.inr ( Or.inl rfl ) | exact Or.inr ( Or.inr rfl )) (by decide) (by decide)) pe_int (fun _ _ => rfl)))) pss_nil) (@pss_cons _ _ _ _ _ (@ps_set _ _ (3) _ _ _ _ (sc__law_way).nd rfl (Or.inl rfl) (@pe_ix _ _ _ _ _ _ _ ix_list (@pe_lst _ _ _ _ (@pa_cons _ _ _ _ _ (@pe_op _ _ _ _ _ _ _ _ op_add pe_int (@pe_cal _ _ _ _ _ _ _ _ _ _ _ C__law_draw hr (by omega) rfl (@pa_cons _ _ _ _ _ (@pv _ 0 _ _ (by rfl) (by first | exact Or.inl rfl | exact Or.inr ( Or.inl rfl ) | exact Or.inr ( Or.inr rfl )) (by decide) (by decide)) (@pa_cons _ _ _ _ _ (@pe_op _ _ _ _ _ _ _ _ op_sub (@pe_callB _ _ _ _ _ _ _ _ _ call_len_seq rfl B.ilen PySem.boot_len (@pa_cons _ _ _ _ _ (@pv _ 1 _ _ (by rfl) (by first | exact Or.inl rfl | exact Or.inr ( Or.inl rfl ) | exact Or.inr ( Or.inr rfl )) (by decide) (by decide)) pa_nil (by rfl)) (by decide) (by decide) (by rfl) (by rfl)) pe_int) pa_nil (by rfl)) (by rfl)) (by decide) (by rfl) (by rfl))) (@pa_cons _ _ _ _ _ pe_int (@pa_cons _ _ _ _ _ (@pe_op _ _ _ _ _ _ _ _ op_sub (@pe_callB _ _ _ _ _ _ _ _ _ call_len_seq rfl B.ilen PySem.boot_len (@pa_cons _ _ _ _ _ (@pv _ 1 _ _ (by rfl) (by first | exact Or.inl rfl | exact Or.inr ( Or.inl rfl ) | exact Or.inr ( Or.inr rfl )) (by decide) (by decide)) pa_nil (by rfl)) (by decide) (by decide) (by rfl) (by rfl)) pe_int) pa_nil (by rfl)) (by rfl)) (by rfl))) (@pe_op _ _ _ _ _ _ _ _ op_fdivB (@pe_cal _ _ _ _ _ _ _ _ _ _ _ C__law_draw hr (by omega) rfl (@pa_cons _ _ _ _ _ (@pv _ 0 _ _ (by rfl) (by first | exact Or.inl rfl | exact Or.inr ( Or.inl rfl ) | exact Or.inr ( Or.inr rfl )) (by decide) (by decide)) (@pa_cons _ _ _ _ _ pe_int pa_nil (by rfl)) (by rfl)) (by decide) (by rfl) (by rfl)) pe_int) (fun _ _ => rfl)) (by rfl) (by first | exact .inl rfl | exact .inr rfl | assumption)) (@pss_cons _ _ _ _ _ (@ps_set _ _ (4) _ _ _ _ (sc__law_way).nd rfl (Or.inl rfl) (@pe_ix _ _ _ _ _ _ _ ix_str (@pv _ 2 _ _ (by rfl) (by first | exact Or.inl rfl | exact Or.inr ( Or.inl rfl ) | exact Or.inr ( Or.inr rfl )) (by decide) (by decide)) (@pe_cal _ _ _ _ _ _ _ _ _ _ _ C__law_draw hr (by omega) rfl (@pa_cons _ _ _ _ _ (@pv _ 0 _ _ (by rfl) (by first | exact Or.inl rfl | exact Or.inr ( Or.inl rfl ) | exact Or.inr ( Or.inr rfl )) (by decide) (by decide)) (@pa_cons _ _ _ _ _ (@pe_callB _ _ _ _ _ _ _ _ _ call_len_str rfl B.ilen PySem.boot_len (@pa_cons _ _ _ _ _ (@pv _ 2 _ _ (by rfl) (by first | exact Or.inl rfl | exact Or.inr ( Or.inl rfl ) | exact Or.inr ( Or.inr rfl )) (by decide) (by decide)) pa_nil (by rfl)) (by decide) (by decide) (by rfl) (by rfl)) pa_nil (by rfl)) (by rfl)) (by decide) (by rfl) (by rfl)) (fun _ _ => rfl)) (by rfl) (by first | exact .inl rfl | exact .inr rfl | assumption)) (@pss_one _ _ _ (@ps_ret _ _ _ _ (@pe_tup _ _ _ _ _ (@pa_cons _ _ _ _ _ (@pv _ 4 _ _ (by rfl) (by first | exact Or.inl rfl | exact Or.inr ( Or.inl rfl ) | exact Or.inr ( Or.inr rfl )) (by decide) (by decide)) (@pa_cons _ _ _ _ _ (@pe_cal _ _ _ _ _ _ _ _ _ _ _ C__law_way hr (by omega) rfl (@pa_cons _ _ _ _ _ (@pv _ 0 _ _ (by rfl) (by first | exact Or.inl rfl | exact Or.inr ( Or.inl rfl ) | exact Or.inr ( Or.inr rfl )) (by decide) (by decide)) (@pa_cons _ _ _ _ _ (@pe_slice _ _ _ _ _ _ _ _ _ _ sl_list (@pv _ 1 _ _ (by rfl) (by first | exact Or.inl rfl | exact Or.inr ( Or.inl rfl ) | exact Or.inr ( Or.inr rfl )) (by decide) (by decide)) po_none (@po_some _ _ _ (@pv _ 3 _ _ (by rfl) (by first | exact Or.inl rfl | exact Or.inr ( Or.inl rfl ) | exact Or.inr ( Or.inr rfl )) (by decide) (by decide)))) (@pa_cons _ _ _ _ _ (@pv _ 2 _ _ (by rfl) (by first | exact Or.inl rfl | exact Or.inr ( Or.inl rfl ) | exact Or.inr ( Or.inr rfl )) (by decide) (by decide)) pa_nil (by rfl)) (by rfl)) (by rfl)) (by decide) (by rfl) (by rfl)) (@pa_cons _ _ _ _ _ (@pe_cal _ _ _ _ _ _ _ _ _ _ _ C__law_way hr (by omega) rfl (@pa_cons _ _ _ _ _ (@pv _ 0 _ _ (by rfl) (by first | exact Or.inl rfl | exact Or.inr ( Or.inl rfl ) | exact Or.inr ( Or.inr rfl )) (by decide) (by decide)) (@pa_cons _ _ _ _ _ (@pe_slice _ _ _ _ _ _ _ _ _ _ sl_list (@pv _ 1 _ _ (by rfl) (by first | exact Or.inl rfl | exact Or.inr ( Or.inl rfl ) | exact Or.inr ( Or.inr rfl )) (by decide) (by decide)) (@po_some _ _ _ (@pv _ 3 _ _ (by rfl) (by first | exact Or.inl rfl | exact Or.inr ( Or.inl rfl ) | exact Or.inr ( Or.inr rfl )) (by decide) (by decide))) po_none) (@pa_cons _ _ _ _ _ (@pv _ 2 _ _ (by rfl) (by first | exact Or.inl rfl | exact Or.inr ( Or.inl rfl ) | exact Or.inr ( Or.inr rfl )) (by decide) (by decide)) pa_nil (by rfl)) (by rfl)) (by rfl)) (by decide) (by rfl) (by rfl)) pa_nil (by rfl)) (by rfl)) (by rfl)))))))), ?_⟩
    have hl : (ns.map V.int).length = ns.length := List.length_map _
    refine ⟨_, rfl, r, _, rfl, .inl (SqL.of er), rfl, _, rfl, ite2 (fun c => ?_) (fun c => ?_)⟩
    · have c' : V.int (((ns.map V.int).length : Nat) : Int) = V.int 1 := of_decide_eq_true c
      have c2 : (((ns.map V.int).length : Nat) : Int) = 1 := by injection c'
      rw [hl] at c2
      match ns, c2, er, q with
      | [i], _, er, q =>
        exact ⟨_, rfl, r, _, _, _, rfl, rfl, SqL.of er, rfl, q _ (.num i) H rfl rfl trivial But.refl (hw.more (by show M ≤ M + 4 * ((1 : Nat) : Int) - 4; omega))⟩
    have c2 : ns.length ≠ 1 := fun e => c (by rw [hl, e]; rfl)
    refine ⟨_, rfl, _, rfl, r, _, rfl, .inl (SqL.of er), _, _, rfl, rfl, wl, ((ns.map V.int).length : Int) - 1, M, rfl, by rw [hl]; omega, by rw [hl]; omega, hw, by omega, fun r1 H1 a1 b1 k1 w1 => ?_⟩
    rw [hl] at b1
    have er1 := k1 _ _ nr er
    refine ⟨_, _, rfl, rfl, _, rfl, r, _, rfl, .inl (SqL.of er1), _, _, rfl, rfl, (by show 3 ≤ sizeLine; decide), fun p1 n1 => ?_⟩
    have w1' := w1.keep (Same.new n1 (.lst [.int (1 + r1), .int 1, .int (((ns.map V.int).length : Int) - 1)])) (Int.le_refl _)
    refine ⟨_, rfl, wl, 5, _, rfl, by decide, by decide, w1', by omega, fun r2 H2 a2 b2 k2 w2 => ?_⟩
    have z2 : 0 ≤ r2 / 2 ∧ r2 / 2 < 3 := by omega
    obtain ⟨cut, hc, c0, c1⟩ := at3 (a := 1 + r1) (b := 1) (c := ((ns.map V.int).length : Int) - 1) z2.1 z2.2 (fun i => 1 ≤ i ∧ i < (ns.length : Int)) (by omega) (by omega) (by rw [hl]; omega)
    have ne1 : p1 ≠ wl := w1.ne n1
    refine ⟨_, _, rfl, rfl, ⟨by decide, by decide⟩, p1, _, _, _, rfl, rfl, SqL.of (k2 _ _ ne1 upd_same), hc, ?_⟩
    have hgl := sgText_len gs
    refine ⟨_, rfl, _, rfl, _, rfl, _, rfl, le_line (by omega), wl, ((sgText gs).length : Int), _, rfl, by omega, by omega, w2, by omega, fun r3 H3 a3 b3 k3 w3 => ?_⟩
    obtain ⟨g, hg, gm⟩ := at_sg (gs := gs) a3 (by omega)
    refine ⟨_, _, _, rfl, rfl, le_line (by omega), hg, ?_⟩
    obtain ⟨cn, rfl⟩ := Int.eq_ofNat_of_zero_le (show 0 ≤ cut by omega)
    have hcl : cn ≤ ns.length := by omega
    have kk : But wl H H3 := ((k1.trans (But.new n1 _)).trans k2).trans k3
    have er3 := kk _ _ nr er
    refine ⟨_, rfl, _, rfl, _, rfl, _, rfl, cn, rfl, r, _, rfl, SqL.of er3, fun p2 n2 => ?_⟩
    rw [cut_take ns cn hcl]
    have lt : (ns.take cn).length = cn := by rw [List.length_take]; omega
    have ld : (ns.drop cn).length = ns.length - cn := by rw [List.length_drop]
    have w4 := w3.keep (Same.new n2 (.lst ((ns.take cn).map V.int))) (Int.le_refl _)
    refine ⟨_, rfl, wl, p2, gs, ns.take cn, _, rfl, upd_same, w3.ne n2, by omega, by omega, by omega, g1, g3, w4, by omega, fun vl wyl H4 i4 e4 t4 k4 w5 => ?_⟩
    have kk4 : But wl H H4 := (kk.trans (But.new n2 _)).trans k4
    have er4 := kk4 _ _ nr er
    refine ⟨_, rfl, _, rfl, _, rfl, cn, rfl, r, _, rfl, SqL.of er4, fun p3 n3 => ?_⟩
    rw [cut_drop ns cn hcl]
    have w6 := w5.keep (Same.new n3 (.lst ((ns.drop cn).map V.int))) (Int.le_refl _)
    refine ⟨_, rfl, wl, p3, gs, ns.drop cn, _, rfl, upd_same, w5.ne n3, by omega, by omega, by omega, g1, g3, w6, by omega, fun vr wyr H5 i5 e5 t5 k5 w7 => ?_⟩
    refine ⟨(by show 3 ≤ sizeLine; decide), fun p4 n4 => ?_⟩
    have T45 : Tups H4 H5 := (Tups.of (Same.new n3 _)).trans (w6.tups k5)
    have T5 : Tups H5 (upd H5 p4 (.tup [.str ⟨#[g.code]⟩, vl, vr])) := Tups.of (Same.new n4 _)
    refine q _ (.node g wyl wyr) _ ⟨p4, vl, vr, rfl, ?_, i4.mono (T45.trans T5), i5.mono T5⟩ ?_ ⟨gm, t4, t5⟩ (((kk4.trans (But.new n3 _)).trans k5).trans (But.new n4 _)) ?_
    · rw [upd_same, sg_str_code]
    · show wyl.nums ++ wyr.nums = ns
      rw [e4, e5, List.take_append_drop]
    · refine (w7.keep (Same.new n4 _) (Int.le_refl _)).more ?_
      omega
end
end Put
set_option Elab.async false
set_option linter.all false
set_option maxRecDepth 100000
set_option maxHeartbeats 2000000
namespace Put
open PySem L2
mutual
def szD : PyData → Nat
  | .list ds => szAll ds + 1
  | .tuple ds => szAll ds + 1
  | .none => 1
  | .bool _ => 1
  | .int _ => 1
  | .str _ => 1
  | .dict _ => 1
def szAll : List PyData → Nat
  | [] => 0
  | d :: ds => szD d + szAll ds
end
mutual
def OkD : PyData → Prop
  | .none => True
  | .bool _ => True
  | .int i => i.natAbs < 10 ^ 13
  | .str x => (reprText x).length ≤ 20
  | .list ds => OkAll ds
  | .tuple ds => OkAll ds
  | .dict kvs => kvs = []
def OkAll : List PyData → Prop
  | [] => True
  | d :: ds => OkD d ∧ OkAll ds
end
mutual
theorem ok_show : ∀ d : PyData, OkD d → d.showable = true
  | .none, h => by simp [PyData.showable]
  | .bool _, h => by simp [PyData.showable]
  | .int i, h => by
    simp only [OkD] at h
    have z : (10 : Nat) ^ 13 < 2 ^ 60 := by decide
    have : i.natAbs.log2 < 60 := by
      by_cases c : i.natAbs = 0
      · rw [c]; decide
      · exact (Nat.log2_lt c).mpr (by omega)
    simp only [PyData.showable]; exact decide_eq_true (by omega)
  | .str _, h => by simp [PyData.showable]
  | .list ds, h => by simp only [OkD] at h; simp only [PyData.showable]; exact ok_showAll ds h
  | .tuple ds, h => by simp only [OkD] at h; simp only [PyData.showable]; exact ok_showAll ds h
  | .dict kvs, h => by simp only [OkD] at h; subst h; simp [PyData.showable, PyData.showableKv]
theorem ok_showAll : ∀ ds : List PyData, OkAll ds → PyData.showableAll ds = true
  | [], h => by simp [PyData.showableAll]
  | d :: ds, h => by
    simp only [OkAll] at h
    simp only [PyData.showableAll, ok_show d h.1, ok_showAll ds h.2, Bool.and_self]
end
mutual
theorem ok_len : ∀ d : PyData, OkD d → d.shown.length + 5 ≤ 40 * szD d
  | .none, h => by show 4 + 5 ≤ 40 * szD .none; simp [szD]
  | .bool b, h => by cases b <;> (simp only [szD]; decide)
  | .int i, h => by
    simp only [OkD] at h
    have e := int_text_length_le10 (a := i) (k := 13) (by decide) h
    simp only [szD]
    show (Str.ofString (toString i)).length + 5 ≤ 40
    rw [ofString_length]; omega
  | .str x, h => by
    simp only [OkD] at h
    simp only [szD, PyData.shown]; omega
  | .list ds, h => by
    simp only [OkD] at h
    have a := ok_lenAll ds h
    have b := listText_len_le (PyData.shownAll ds)
    have c := PyData.shownAll_length ds
    simp only [szD, PyData.shown]
    omega
  | .tuple ds, h => by
    simp only [OkD] at h
    have a := ok_lenAll ds h
    have b := tupleText_len_le (PyData.shownAll ds)
    have c := PyData.shownAll_length ds
    simp only [szD, PyData.shown]
    omega
  | .dict kvs, h => by
    simp only [OkD] at h; subst h
    simp only [szD]
    show (PyData.shown (.dict [])).length + 5 ≤ 40
    decide +kernel
theorem ok_lenAll : ∀ ds : List PyData, OkAll ds → ((PyData.shownAll ds).map (·.length)).sum + 5 * ds.length ≤ 40 * szAll ds
  | [], h => by simp [PyData.shownAll, szAll]
  | d :: ds, h => by
    simp only [OkAll] at h
    have a := ok_len d h.1
    have b := ok_lenAll ds h.2
    simp only [PyData.shownAll, szAll, List.map_cons, List.sum_cons, List.length_cons]
    omega
end
mutual
theorem szD_pos : ∀ d : PyData, 1 ≤ szD d
  | .none => by simp [szD]
  | .bool _ => by simp [szD]
  | .int _ => by simp [szD]
  | .str _ => by simp [szD]
  | .list _ => by simp [szD]
  | .tuple _ => by simp [szD]
  | .dict _ => by simp [szD]
end
def sgD : PyData → Bool
  | .str z => isSg z
  | _ => false
mutual
def cntD : PyData → Option Nat
  | .int _ => some 1
  | .tuple ds => cntT ds
  | .none => none
  | .bool _ => none
  | .str _ => none
  | .list _ => none
  | .dict _ => none
def cntT : List PyData → Option Nat
  | [] => none
  | [_] => none
  | [_, _] => none
  | [s, l, r] => if sgD s then (match cntD l, cntD r with | some a, some b => some (a + b) | _, _ => none) else none
  | _ :: _ :: _ :: _ :: _ => none
end
def isWayD (d : PyData) : Bool := match cntD d with
  | some n => decide (n ≤ 9)
  | none => false
def tot : List PyData → Option Nat
  | [] => some 0
  | d :: ds => match cntD d, tot ds with | some a, some b => some (a + b) | _, _ => none
def szL (ds : List PyData) : Nat := (ds.map szD).sum
end Put
set_option Elab.async false
set_option linter.all false
set_option maxRecDepth 100000
set_option maxHeartbeats 2000000
namespace Put
open PySem L2
theorem tot_snoc : ∀ (ds : List PyData) (d : PyData), tot (ds ++ [d]) = (match tot ds, cntD d with | some a, some b => some (a + b) | _, _ => none)
  | [], d => by
    show (match cntD d, some 0 with | some a, some b => some (a + b) | _, _ => none) = _
    cases cntD d <;> simp [tot]
  | e :: ds, d => by
    show (match cntD e, tot (ds ++ [d]) with | some a, some b => some (a + b) | _, _ => none) = (match (match cntD e, tot ds with | some a, some b => some (a + b) | _, _ => none), cntD d with | some a, some b => some (a + b) | _, _ => none)
    rw [tot_snoc ds d]
    cases cntD e <;> cases tot ds <;> cases cntD d <;> simp [Nat.add_assoc]
theorem cntD_pos : ∀ (d : PyData) (n : Nat), cntD d = some n → 1 ≤ n
  | .int _, n, h => by simp only [cntD] at h; injection h with h; omega
  | .tuple ds, n, h => by
    simp only [cntD] at h
    match ds, h with
    | [], h => simp [cntT] at h
    | [_], h => simp [cntT] at h
    | [_, _], h => simp [cntT] at h
    | [s, l, r], h =>
      simp only [cntT] at h
      split at h
      · cases e1 : cntD l with
        | none => rw [e1] at h; cases h
        | some a =>
          cases e2 : cntD r with
          | none => rw [e1, e2] at h; cases h
          | some b =>
            rw [e1, e2] at h
            have := cntD_pos l a e1
            injection h with h; omega
      · cases h
    | _ :: _ :: _ :: _ :: _, h => simp [cntT] at h
  | .none, n, h => by simp [cntD] at h
  | .bool _, n, h => by simp [cntD] at h
  | .str _, n, h => by simp [cntD] at h
  | .list _, n, h => by simp [cntD] at h
  | .dict _, n, h => by simp [cntD] at h
theorem tot_len : ∀ (ds : List PyData) (t : Nat), tot ds = some t → ds.length ≤ t
  | [], t, h => Nat.zero_le _
  | d :: ds, t, h => by
    have h' : (match cntD d, tot ds with | some a, some b => some (a + b) | _, _ => none) = some t := h
    cases e1 : cntD d with
    | none => rw [e1] at h'; cases h'
    | some a =>
      cases e2 : tot ds with
      | none => rw [e1, e2] at h'; cases h'
      | some b =>
        rw [e1, e2] at h'
        have := cntD_pos d a e1
        have := tot_len ds b e2
        injection h' with h'
        rw [List.length_cons]; omega
theorem szL_snoc (ds : List PyData) (d : PyData) : szL (ds ++ [d]) = szL ds + szD d := by simp [szL]
theorem len_szL : ∀ ds : List PyData, ds.length ≤ szL ds
  | [] => Nat.le_refl _
  | d :: ds => by
    have a := len_szL ds; have b := szD_pos d
    show ds.length + 1 ≤ (szD d :: ds.map szD).sum
    rw [List.sum_cons]
    have : szL ds = (ds.map szD).sum := rfl
    omega
def Left (n : Nat) (ds : List PyData) (d0 : PyData) : Prop := cntD d0 = (tot ds).map (· + n)
theorem Left.bad {n : Nat} {ds : List PyData} {d d0 : PyData} (h : Left n (ds ++ [d]) d0) (e : cntD d = none) : isWayD d0 = false := by
  unfold Left at h
  rw [tot_snoc, e] at h
  have h2 : cntD d0 = none := by rw [h]; cases tot ds <;> rfl
  unfold isWayD; rw [h2]
theorem Left.num {n : Nat} {ds : List PyData} {i : Int} {d0 : PyData} (h : Left n (ds ++ [.int i]) d0) : Left (n + 1) ds d0 := by
  unfold Left at h ⊢
  rw [h, tot_snoc]
  have e : cntD (.int i) = some 1 := by simp only [cntD]
  rw [e]
  cases tot ds with
  | none => rfl
  | some a => show some (a + 1 + n) = some (a + (n + 1)); congr 1; omega
theorem Left.node {n : Nat} {ds : List PyData} {s l r d0 : PyData} (h : Left n (ds ++ [.tuple [s, l, r]]) d0) (hs : sgD s = true) : Left n (ds ++ [l] ++ [r]) d0 := by
  unfold Left at h ⊢
  have e : cntD (.tuple [s, l, r]) = (match cntD l, cntD r with | some a, some b => some (a + b) | _, _ => none) := by
    simp only [cntD, cntT]
    rw [if_pos hs] <;> (cases cntD l <;> cases cntD r <;> rfl)
  rw [h, tot_snoc, tot_snoc, tot_snoc, e]
  cases tot ds <;> cases cntD l <;> cases cntD r <;> simp [Nat.add_assoc]
theorem Left.full {n : Nat} {ds : List PyData} {d0 : PyData} (h : Left n ds d0) (h2 : 9 < n + ds.length) : isWayD d0 = false := by
  unfold Left at h
  unfold isWayD
  rw [h]
  cases e : tot ds with
  | none => rfl
  | some t =>
    have := tot_len ds t e
    show decide (t + n ≤ 9) = false
    exact decide_eq_false (by omega)
theorem Left.done {n : Nat} {d0 : PyData} (h : Left n [] d0) : isWayD d0 = decide (n ≤ 9) := by
  unfold Left at h
  unfold isWayD
  rw [h]
  show decide (0 + n ≤ 9) = decide (n ≤ 9)
  rw [Nat.zero_add]
section
variable {P : Program} {w : World} {K : PySem.W.Frag} {mg : Str → Option Value} {base : Heap} {f : Addr} {fd : FuncData}
def spSignD : Sp := fun vs H Q _ => ∃ d v, vs = [v] ∧ Dat H d v ∧ Q (.bl (sgD d)) H
theorem ok_is_signD {tk : Tok} {aS : Addr} (F : Fun K "is_sign" "is_sign" s_is_sign f fd) (B : Bu K mg) (B' : Co K mg tk aS) : FnOk P w K mg base CX0 1 f fd ["thing"] spSignD := by
  refine F.ok sc_is_sign (fun vs H Q E h => ?_) (fun cdv A outer s H vs Q E hr h => ?_)
  · obtain ⟨d, x, rfl, _⟩ := h
    rfl
  obtain ⟨d, v, rfl, hd, q⟩ := h
  refine ⟨_, (@pss_one _ _ _ (@ps_ret _ _ _ _ (@pe_and _ _ _ _ _ _ _ (@pe_callB _ _ _ _ _ _ _ _ _ (@call_isinst _ ("str")) rfl B.iisinstance PyProof.Rows.boot_isinstance (@pa_cons _ _ _ _ _ (@pv _ 0 _ _ (by rfl) (by first | exact Or.inl rfl | exact Or.inr ( Or.inl rfl ) | exact Or.inr ( Or.inr rfl )) (by decide) (by decide)) (@pa_cons _ _ _ _ _ (@pe_bltn _ _ (.ty "str") _ _ rfl B.istr PyProof.Rows.boot_str rfl (by decide) (by decide)) pa_nil (by rfl)) (by rfl)) (by decide) (by decide) (by rfl) (by rfl)) (@pe_one _ _ _ _ _ (@pe_cmpR _ _ _ _ _ _ _ _ op_in_seq (@pv _ 0 _ _ (by rfl) (by first | exact Or.inl rfl | exact Or.inr ( Or.inl rfl ) | exact Or.inr ( Or.inr rfl )) (by decide) (by decide)) (@pe_glob _ _ (.ref aS) _ _ rfl B'.gSIGNS rfl (by decide)) (by with_unfolding_all rfl)))))), ?_⟩
  cases d with
  | str z =>
    simp only [Dat] at hd; subst hd
    exact ⟨_, rfl, _, _, true, rfl, .str z, rfl, true, rfl, iteT ⟨_, rfl, aS, _, rfl, .inr (B'.sSIGNS H), rfl, rfl, q⟩⟩
  | none => exact ⟨_, rfl, _, _, false, rfl, hd.ty, rfl, false, rfl, iteF q⟩
  | bool b => exact ⟨_, rfl, _, _, false, rfl, hd.ty, rfl, false, rfl, iteF q⟩
  | int i => exact ⟨_, rfl, _, _, false, rfl, hd.ty, rfl, false, rfl, iteF q⟩
  | list ds => exact ⟨_, rfl, _, _, false, rfl, hd.ty, rfl, false, rfl, iteF q⟩
  | tuple ds => exact ⟨_, rfl, _, _, false, rfl, hd.ty, rfl, false, rfl, iteF q⟩
  | dict ds => exact ⟨_, rfl, _, _, false, rfl, hd.ty, rfl, false, rfl, iteF q⟩
def spIsWayD : Sp := fun vs H Q _ => ∃ d v, vs = [v] ∧ Dat H d v ∧ ∀ H', Same H H' → Q (.bl (isWayD d)) H'
theorem dat3 {H : Hp} {ds : List PyData} {xs : List V} (h : DatAll H ds xs) (h3 : xs.length = 3) : ∃ s l r x y z, ds = [s, l, r] ∧ xs = [x, y, z] ∧ Dat H s x ∧ Dat H l y ∧ Dat H r z := by
  have hl := h.len
  obtain ⟨x, y, z, rfl⟩ := len3 h3
  obtain ⟨s, l, r, rfl⟩ := len3 (hl.trans h3)
  simp only [DatAll] at h
  obtain ⟨_, _, e1, h1, _, _, e2, h2, _, _, e3, h3, _⟩ := h
  injection e1 with e1 t1; subst t1
  injection e2 with e2 t2; subst t2
  injection e3 with e3 t3
  subst e1 e2 e3
  exact ⟨s, l, r, x, y, z, rfl, rfl, h1, h2, h3⟩
theorem cnt_len {ds : List PyData} (h : ds.length ≠ 3) : cntD (.tuple ds) = none := by
  simp only [cntD]
  match ds, h with
  | [], _ => simp [cntT]
  | [_], _ => simp [cntT]
  | [_, _], _ => simp [cntT]
  | [_, _, _], h => exact absurd rfl h
  | _ :: _ :: _ :: _ :: _, _ => simp [cntT]
theorem cnt_sg {s l r : PyData} (h : sgD s = false) : cntD (.tuple [s, l, r]) = none := by
  simp only [cntD, cntT, h]; rfl
theorem ok_is_wayD {tk : Tok} {aS : Addr} (F : Fun K "is_way" "is_way" s_is_way f fd) (B : Bu K mg) (B' : Co K mg tk aS) (C_is_whole : Cal P w K mg base "is_whole" 1 ["thing"] (spWhole K)) (C_is_sign : Cal P w K mg base "is_sign" 1 ["thing"] spSignD) :
    FnOk P w K mg base CX0 2 f fd ["thing"] spIsWayD := by
  refine F.ok sc_is_way (fun vs H Q E h => ?_) (fun cdv A outer s H vs Q E hr h => ?_)
  · obtain ⟨x, v, rfl, _⟩ := h
    rfl
  obtain ⟨d0, v, rfl, hd0, q⟩ := h
  refine ⟨_, (@pss_cons _ _ _ _ _ (@ps_set _ _ (1) _ _ _ _ (sc_is_way).nd rfl (Or.inl rfl) (@pe_lst _ _ _ _ (@pa_cons _ _ _ _ _ (@pv _ 0 _ _ (by rfl) (by first | exact Or.inl rfl | exact Or.inr ( Or.inl rfl ) | exact Or.inr ( Or.inr rfl )) (by decide) (by decide)) pa_nil (by rfl))) (by rfl) (by first | exact .inl rfl | exact .inr rfl | assumption)) (@pss_cons _ _ _ _ _ (@ps_set _ _ (2) _ _ _ _ (sc_is_way).nd rfl (Or.inl rfl) pe_int (by rfl) (by first | exact .inl rfl | exact .inr rfl | assumption)) (@pss_cons _ _ _ _ _ (@ps_while _ _ _ _ _ _ PassesOwn.never (@PW.pt _ _ _ (@pw_and _ _ _ _ _ _ _ (@pt_truth _ _ _ (@pv _ 1 _ _ (by rfl) (by first | exact Or.inl rfl | exact Or.inr ( Or.inl rfl ) | exact Or.inr ( Or.inr rfl )) (by decide) (by decide)) (fun _ => rfl)) (@pw_and1 _ _ _ _ (@pt_cmpR _ _ _ _ _ _ _ _ op_le (@pe_op _ _ _ _ _ _ _ _ op_add (@pv _ 2 _ _ (by rfl) (by first | exact Or.inl rfl | exact Or.inr ( Or.inl rfl ) | exact Or.inr ( Or.inr rfl )) (by decide) (by decide)) (@pe_callB _ _ _ _ _ _ _ _ _ call_len_seq rfl B.ilen PySem.boot_len (@pa_cons _ _ _ _ _ (@pv _ 1 _ _ (by rfl) (by first | exact Or.inl rfl | exact Or.inr ( Or.inl rfl ) | exact Or.inr ( Or.inr rfl )) (by decide) (by decide)) pa_nil (by rfl)) (by decide) (by decide) (by rfl) (by rfl))) (@pe_glob _ _ (.int 9) _ _ rfl B'.gMOST_NUMBERS ⟨_, rfl⟩ (by decide)) (nomark _))))) (@pss_cons _ _ _ _ _ (@ps_set _ _ (3) _ _ _ _ (sc_is_way).nd rfl (Or.inl rfl) (@pe_bm0 _ _ _ _ _ _ _ _ _ PySem.F.plainAttrs_list PySem.F.slot_list_pop PySem.F.type_list_pop mt_pop (@pv _ 1 _ _ (by rfl) (by first | exact Or.inl rfl | exact Or.inr ( Or.inl rfl ) | exact Or.inr ( Or.inr rfl )) (by decide) (by decide)) (by rfl) (by rfl)) (by rfl) (by first | exact .inl rfl | exact .inr rfl | assumption)) (@pss_one _ _ _ (@ps_if _ _ _ _ _ _ _ _ (@pt_val _ _ _ (@pe_cal _ _ _ _ _ _ _ _ _ _ _ C_is_whole hr (by omega) rfl (@pa_cons _ _ _ _ _ (@pv _ 3 _ _ (by rfl) (by first | exact Or.inl rfl | exact Or.inr ( Or.inl rfl ) | exact Or.inr ( Or.inr rfl )) (by decide) (by decide)) pa_nil (by rfl)) (by decide) (by rfl) (by rfl)) (by intro _; rfl)) (@pss_one _ _ _ (@ps_aug _ _ (2) _ _ _ _ _ _ (sc_is_way).nd rfl (Or.inl rfl) pe_int ip_add (by first | exact .inl rfl | exact .inr rfl | assumption))) (@pss_one _ _ _ (@ps_if _ _ _ _ _ _ _ _ (@PW.pt _ _ _ (@pw_and _ _ _ _ _ _ _ (@pt_val _ _ _ (@pe_callB _ _ _ _ _ _ _ _ _ (@call_isinst _ ("tuple")) rfl B.iisinstance PyProof.Rows.boot_isinstance (@pa_cons _ _ _ _ _ (@pv _ 3 _ _ (by rfl) (by first | exact Or.inl rfl | exact Or.inr ( Or.inl rfl ) | exact Or.inr ( Or.inr rfl )) (by decide) (by decide)) (@pa_cons _ _ _ _ _ (@pe_bltn _ _ (.ty "tuple") _ _ rfl B.ituple PyProof.Rows.boot_tuple rfl (by decide) (by decide)) pa_nil (by rfl)) (by rfl)) (by decide) (by decide) (by rfl) (by rfl)) (by intro _; rfl)) (@pw_and _ _ _ _ _ _ _ (@pt_cmpR _ _ _ _ _ _ _ _ op_eq (@pe_callB _ _ _ _ _ _ _ _ _ call_len_seq rfl B.ilen PySem.boot_len (@pa_cons _ _ _ _ _ (@pv _ 3 _ _ (by rfl) (by first | exact Or.inl rfl | exact Or.inr ( Or.inl rfl ) | exact Or.inr ( Or.inr rfl )) (by decide) (by decide)) pa_nil (by rfl)) (by decide) (by decide) (by rfl) (by rfl)) pe_int (nomark _)) (@pw_and1 _ _ _ _ (@pt_val _ _ _ (@pe_cal _ _ _ _ _ _ _ _ _ _ _ C_is_sign hr (by omega) rfl (@pa_cons _ _ _ _ _ (@pe_ix _ _ _ _ _ _ _ ix_tup (@pv _ 3 _ _ (by rfl) (by first | exact Or.inl rfl | exact Or.inr ( Or.inl rfl ) | exact Or.inr ( Or.inr rfl )) (by decide) (by decide)) pe_int (fun _ _ => rfl)) pa_nil (by rfl)) (by decide) (by rfl) (by rfl)) (by intro _; rfl)))))) (@pss_cons _ _ _ _ _ (@ps_expr _ _ _ _ (@pe_bm _ _ _ _ _ _ _ _ _ _ _ _ PySem.F.plainAttrs_list PySem.F.slot_list_append PySem.F.type_list_append mt_append (@pv _ 1 _ _ (by rfl) (by first | exact Or.inl rfl | exact Or.inr ( Or.inl rfl ) | exact Or.inr ( Or.inr rfl )) (by decide) (by decide)) (@pa_cons _ _ _ _ _ (@pe_ix _ _ _ _ _ _ _ ix_tup (@pv _ 3 _ _ (by rfl) (by first | exact Or.inl rfl | exact Or.inr ( Or.inl rfl ) | exact Or.inr ( Or.inr rfl )) (by decide) (by decide)) pe_int (fun _ _ => rfl)) pa_nil (by rfl)) (by rfl) (by rfl) (by rfl) (by rfl) (by rfl)) (by rfl)) (@pss_one _ _ _ (@ps_expr _ _ _ _ (@pe_bm _ _ _ _ _ _ _ _ _ _ _ _ PySem.F.plainAttrs_list PySem.F.slot_list_append PySem.F.type_list_append mt_append (@pv _ 1 _ _ (by rfl) (by first | exact Or.inl rfl | exact Or.inr ( Or.inl rfl ) | exact Or.inr ( Or.inr rfl )) (by decide) (by decide)) (@pa_cons _ _ _ _ _ (@pe_ix _ _ _ _ _ _ _ ix_tup (@pv _ 3 _ _ (by rfl) (by first | exact Or.inl rfl | exact Or.inr ( Or.inl rfl ) | exact Or.inr ( Or.inr rfl )) (by decide) (by decide)) pe_int (fun _ _ => rfl)) pa_nil (by rfl)) (by rfl) (by rfl) (by rfl) (by rfl) (by rfl)) (by rfl)))) (@pss_one _ _ _ (@ps_ret _ _ _ _ pe_bl)))))))) (@pss_one _ _ _ (@ps_ret _ _ _ _ (pe_notT (pv 1))))))), ?_⟩
  refine ⟨_, rfl, (by show 1 ≤ sizeLine; decide), fun p hp => ?_⟩
  refine ⟨fun m σ H' => ∃ (n : Nat) (ds : List PyData) (vs : List V) (part : Option V), σ = [some v, some (.ref p), some (.int n), part] ∧ H' p = some (.lst vs) ∧ DatAll H ds vs ∧ Same H H' ∧ n ≤ 9 ∧ vs.length ≤ 100 ∧ Left n ds d0 ∧ m = szL ds, ?_, ?_⟩
  · refine ⟨_, 0, [d0], [v], _, rfl, upd_same, DatAll.one hd0, Same.new hp _, by omega, by simp, ?_, rfl⟩
    unfold Left
    have e : tot [d0] = (match cntD d0, some 0 with | some a, some b => some (a + b) | _, _ => none) := rfl
    rw [e]
    cases cntD d0 <;> simp
  rintro m σ H' ⟨n, ds, vs, part, rfl, hH, hall, hS, hn, hvl, hL, rfl⟩
  have hlen := hall.len
  by_cases ne : vs = []
  · subst ne
    have e : ds = [] := List.length_eq_zero_iff.mp hlen
    subst e
    refine ⟨_, rfl, false, .inl ⟨[], SqL.of hH, rfl⟩, iteF (iteF ?_)⟩
    have z := q H' hS
    rw [hL.done, decide_eq_true hn] at z
    exact ⟨_, rfl, false, .inl ⟨[], SqL.of hH, rfl⟩, z⟩
  refine ⟨_, rfl, true, .inl ⟨_, SqL.of hH, by simpa using ne⟩, iteT ⟨_, rfl, _, rfl, p, _, rfl, .inl (SqL.of hH), _, _, rfl, rfl, _, _, rfl, rfl, decide ((n : Int) + (vs.length : Nat) ≤ 9), rfl, ?_⟩⟩
  by_cases c9 : (n : Int) + (vs.length : Nat) ≤ 9
  · refine iteDT c9 ⟨fun σ' H' => ∃ m', m' < szL ds ∧ _, fun _ _ h => h, ?_⟩
    obtain ⟨ds', d, vs', v', rfl, rfl, hall', hd⟩ := hall.last ne
    refine ⟨_, rfl, .inl ⟨rfl, _, SqL.of hH⟩, p, _, v', rfl, rfl, hH, last_at _ _, ?_⟩
    rw [trunc]
    have hp0 : H p = none := hp
    have hS2 : Same H (upd H' p (.lst vs')) := hS.upd hp0
    rw [szL_snoc]
    have zp := szD_pos d
    have hd2 := Dat.mono hS2 d v' hd
    rw [List.length_append, List.length_singleton] at c9
    have bad : cntD d = none → Q (.bl false) (upd H' p (.lst vs')) := fun e => by
      have z := q _ hS2
      rw [hL.bad e] at z; exact z
    cases d with
    | int i =>
      simp only [Dat] at hd2; subst hd2
      refine ⟨_, rfl, _, "int", rfl, .int i, true, rfl, iteT ⟨_, rfl, _, _, rfl, rfl, ?_⟩⟩
      exact ⟨szL ds', by simp only [szD]; omega, n + 1, ds', vs', _, rfl, upd_same, hall', hS2, by omega, by omega, hL.num, rfl⟩
    | tuple xs =>
      have ty := hd2.ty (K := K)
      simp only [Dat] at hd2 hd
      obtain ⟨a, us, rfl, ha, hxs⟩ := hd
      have ha2 : upd H' p (.lst vs') a = some (.tup us) := hS2 _ _ ha
      refine ⟨_, rfl, _, "tuple", rfl, ty, false, rfl, iteF ?_⟩
      refine ⟨_, rfl, _, _, true, rfl, ty, rfl, true, rfl, iteT ⟨_, rfl, a, _, rfl, .inr (SqT.of ha2), rfl, decide (V.int (us.length : Nat) = V.int 3), rfl, ?_⟩⟩
      have lx := hxs.len
      by_cases c3 : us.length = 3
      · obtain ⟨s, l, r, x, y, z, rfl, rfl, h1, h2, h3⟩ := dat3 hxs c3
        refine iteDT rfl ?_
        refine ⟨_, rfl, a, _, _, _, rfl, rfl, SqT.of ha2, rfl, s, x, rfl, Dat.mono hS2 s x h1, sgD s, rfl, ?_⟩
        cases hs : sgD s with
        | true =>
          refine iteT ?_
          refine ⟨_, rfl, .inl ⟨rfl, _, SqL.of upd_same⟩, _, rfl, a, _, _, _, rfl, rfl, SqT.of ha2, rfl, p, _, _, rfl, rfl, upd_same, small1000 (by omega), ?_⟩
          have k1 : Same H (upd (upd H' p (.lst vs')) p (.lst (vs' ++ [y]))) := hS2.upd hp0
          refine ⟨_, rfl, .inl ⟨rfl, _, SqL.of upd_same⟩, _, rfl, a, _, _, _, rfl, rfl, SqT.of (k1 _ _ ha), rfl, p, _, _, rfl, rfl, upd_same, small1000 (by rw [List.length_append, List.length_singleton]; omega), ?_⟩
          refine ⟨szL (ds' ++ [l] ++ [r]), ?_, n, ds' ++ [l] ++ [r], vs' ++ [y] ++ [z], _, rfl, upd_same, (hall'.app (DatAll.one h2)).app (DatAll.one h3), k1.upd hp0, hn, by rw [List.length_append, List.length_append]; simp; omega, hL.node hs, rfl⟩
          rw [szL_snoc, szL_snoc]
          simp only [szD, szAll]
          have := szD_pos s
          omega
        | false => exact iteF (bad (cnt_sg hs))
      · refine iteDF (fun e => c3 (by injection e with e; omega)) (bad (cnt_len (by omega)))
    | none => exact ⟨_, rfl, _, _, rfl, hd2.ty, false, rfl, iteF ⟨_, rfl, _, _, false, rfl, hd2.ty, rfl, false, rfl, iteF (bad (by simp only [cntD]))⟩⟩
    | bool b => exact ⟨_, rfl, _, _, rfl, hd2.ty, false, rfl, iteF ⟨_, rfl, _, _, false, rfl, hd2.ty, rfl, false, rfl, iteF (bad (by simp only [cntD]))⟩⟩
    | str b => exact ⟨_, rfl, _, _, rfl, hd2.ty, false, rfl, iteF ⟨_, rfl, _, _, false, rfl, hd2.ty, rfl, false, rfl, iteF (bad (by simp only [cntD]))⟩⟩
    | list b => exact ⟨_, rfl, _, _, rfl, hd2.ty, false, rfl, iteF ⟨_, rfl, _, _, false, rfl, hd2.ty, rfl, false, rfl, iteF (bad (by simp only [cntD]))⟩⟩
    | dict b => exact ⟨_, rfl, _, _, rfl, hd2.ty, false, rfl, iteF ⟨_, rfl, _, _, false, rfl, hd2.ty, rfl, false, rfl, iteF (bad (by simp only [cntD]))⟩⟩
  · refine iteDF c9 ?_
    have z := q H' hS
    rw [hL.full (by omega)] at z
    exact ⟨_, rfl, true, .inl ⟨_, SqL.of hH, by simpa using ne⟩, z⟩
end
end Put
set_option Elab.async false
set_option linter.all false
set_option maxRecDepth 100000
set_option maxHeartbeats 2000000
namespace Put
open PySem L2
theorem iteNN {c A B : Prop} [Decidable c] (hc : ¬ c) (h : A) : if (!decide c) = true then A else B := by
  rw [decide_eq_false hc]; exact iteT h
section
variable {P : Program} {w : World} {K : PySem.W.Frag} {mg : Str → Option Value} {base : Heap} {f : Addr} {fd : FuncData}
def spOdd : Sp := fun vs H Q _ => ∃ wl M, vs = [.ref wl] ∧ Wel H wl M ∧ M < 999990000 ∧ ∀ d u H', But wl H H' → Wel H' wl (M + 1) → Dat (off wl H') d u → OkD d → szD d ≤ 10 → d.depth ≤ 3 → Q u H'
abbrev s__law_odd : Stmt := top 56
theorem sc__law_odd : FnScope ["well", "some"] ["well"] (defScope s__law_odd) := ⟨rfl, rfl, rfl, by decide +kernel, rfl, by decide +kernel, by decide +kernel⟩
theorem ok_odd (F : Fun K "_law_odd" "_law_odd" s__law_odd f fd) (C__law_draw : Cal P w K mg base "_law_draw" 2 ["well", "many"] spDraw) : FnOk P w K mg base CX0 3 f fd ["well"] spOdd := by
  refine F.ok sc__law_odd (fun vs H Q E h => ?_) (fun cdv A outer s H vs Q E hr h => ?_)
  · obtain ⟨wl, M, rfl, _⟩ := h
    rfl
  obtain ⟨wl, M, rfl, hw, hM, q⟩ := h
  refine ⟨_, (@pss_cons _ _ _ _ _ (@ps_set _ _ (1) _ _ _ _ (sc__law_odd).nd rfl (Or.inl rfl) (@pe_lst _ _ _ _ (@pa_cons _ _ _ _ _ pe_non (@pa_cons _ _ _ _ _ pe_bl (@pa_cons _ _ _ _ _ pe_bl (@pa_cons _ _ _ _ _ pe_str (@pa_cons _ _ _ _ _ pe_str (@pa_cons _ _ _ _ _ pe_str (@pa_cons _ _ _ _ _ (@pe_lst _ _ _ _ pa_nil) (@pa_cons _ _ _ _ _ (@pe_lst _ _ _ _ (@pa_cons _ _ _ _ _ pe_int pa_nil (by rfl))) (@pa_cons _ _ _ _ _ (@pe_tup _ _ _ _ _ pa_nil) (@pa_cons _ _ _ _ _ (@pe_tup _ _ _ _ _ (@pa_cons _ _ _ _ _ pe_int pa_nil (by rfl))) (@pa_cons _ _ _ _ _ pe_dnewK (@pa_cons _ _ _ _ _ (@pe_tup _ _ _ _ _ (@pa_cons _ _ _ _ _ pe_str (@pa_cons _ _ _ _ _ pe_int pa_nil (by rfl)) (by rfl))) (@pa_cons _ _ _ _ _ (@pe_tup _ _ _ _ _ (@pa_cons _ _ _ _ _ pe_str (@pa_cons _ _ _ _ _ pe_int (@pa_cons _ _ _ _ _ pe_int (@pa_cons _ _ _ _ _ pe_int pa_nil (by rfl)) (by rfl)) (by rfl)) (by rfl))) (@pa_cons _ _ _ _ _ (@pe_lst _ _ _ _ (@pa_cons _ _ _ _ _ pe_str (@pa_cons _ _ _ _ _ pe_int (@pa_cons _ _ _ _ _ pe_int pa_nil (by rfl)) (by rfl)) (by rfl))) (@pa_cons _ _ _ _ _ (@pe_tup _ _ _ _ _ (@pa_cons _ _ _ _ _ pe_int (@pa_cons _ _ _ _ _ pe_str (@pa_cons _ _ _ _ _ pe_int pa_nil (by rfl)) (by rfl)) (by rfl))) pa_nil (by rfl)) (by rfl)) (by rfl)) (by rfl)) (by rfl)) (by rfl)) (by rfl)) (by rfl)) (by rfl)) (by rfl)) (by rfl)) (by rfl)) (by rfl)) (by rfl)) (by rfl))) (by rfl) (by first | exact .inl rfl | exact .inr rfl | assumption)) (@pss_one _ _ _ (@ps_ret _ _ _ _ (@pe_ix _ _ _ _ _ _ _ ix_list (@pv _ 1 _ _ (by rfl) (by first | exact Or.inl rfl | exact Or.inr ( Or.inl rfl ) | exact Or.inr ( Or.inr rfl )) (by decide) (by decide)) (@pe_cal _ _ _ _ _ _ _ _ _ _ _ C__law_draw hr (by omega) rfl (@pa_cons _ _ _ _ _ (@pv _ 0 _ _ (by rfl) (by first | exact Or.inl rfl | exact Or.inr ( Or.inl rfl ) | exact Or.inr ( Or.inr rfl )) (by decide) (by decide)) (@pa_cons _ _ _ _ _ pe_int pa_nil (by rfl)) (by rfl)) (by decide) (by rfl) (by rfl)) (fun _ _ => rfl))))), ?_⟩
  refine ⟨(by show 0 ≤ sizeLine; decide), fun p1 n1 => ⟨(by show 1 ≤ sizeLine; decide), fun p2 n2 => ⟨(by show 0 ≤ sizeLine; decide), fun p3 n3 => ⟨(by show 1 ≤ sizeLine; decide), fun p4 n4 => fun p5 n5 => ⟨(by show 2 ≤ sizeLine; decide), fun p6 n6 => ⟨(by show 4 ≤ sizeLine; decide), fun p7 n7 => ⟨(by show 3 ≤ sizeLine; decide), fun p8 n8 => ⟨(by show 3 ≤ sizeLine; decide), fun p9 n9 => ⟨(by show 15 ≤ sizeLine; decide), fun p10 n10 => ?_⟩⟩⟩⟩⟩⟩⟩⟩⟩
  have k1 := Same.new n1 (.lst [])
  have k2 := Same.new n2 (.lst [.int 3])
  have k3 := Same.new n3 (.tup [])
  have k4 := Same.new n4 (.tup [.int 3])
  have k5 := Same.new n5 (.dK [])
  have k6 := Same.new n6 (.tup [.str "+", .int 1])
  have k7 := Same.new n7 (.tup [.str "+", .int 1, .int 2, .int 3])
  have k8 := Same.new n8 (.lst [.str "+", .int 1, .int 2])
  have k9 := Same.new n9 (.tup [.int 1, .str "+", .int 2])
  have k10 := Same.new n10 (.lst [.non, .bl true, .bl false, .str "", .str "+", .str "3", .ref p1, .ref p2, .ref p3, .ref p4, .ref p5, .ref p6, .ref p7, .ref p8, .ref p9])
  have K1 := k1
  have K2 := K1.trans k2
  have K3 := K2.trans k3
  have K4 := K3.trans k4
  have K5 := K4.trans k5
  have K6 := K5.trans k6
  have K7 := K6.trans k7
  have K8 := K7.trans k8
  have K9 := K8.trans k9
  have K10 := K9.trans k10
  have w1 := hw.ne n1
  have w2 := (hw.keep K1 (Int.le_refl _)).ne n2
  have w3 := (hw.keep K2 (Int.le_refl _)).ne n3
  have w4 := (hw.keep K3 (Int.le_refl _)).ne n4
  have w5 := (hw.keep K4 (Int.le_refl _)).ne n5
  have w6 := (hw.keep K5 (Int.le_refl _)).ne n6
  have w7 := (hw.keep K6 (Int.le_refl _)).ne n7
  have w8 := (hw.keep K7 (Int.le_refl _)).ne n8
  have w9 := (hw.keep K8 (Int.le_refl _)).ne n9
  have w10 := (hw.keep K9 (Int.le_refl _)).ne n10
  have hw10 := hw.keep K10 (Int.le_refl _)
  have e9 := k10 _ _ (upd_same (a := p9))
  have e8 := k10 _ _ (k9 _ _ (upd_same (a := p8)))
  have e7 := k10 _ _ (k9 _ _ (k8 _ _ (upd_same (a := p7))))
  have e6 := k10 _ _ (k9 _ _ (k8 _ _ (k7 _ _ (upd_same (a := p6)))))
  have e5 := k10 _ _ (k9 _ _ (k8 _ _ (k7 _ _ (k6 _ _ (upd_same (a := p5))))))
  have e4 := k10 _ _ (k9 _ _ (k8 _ _ (k7 _ _ (k6 _ _ (k5 _ _ (upd_same (a := p4)))))))
  have e3 := k10 _ _ (k9 _ _ (k8 _ _ (k7 _ _ (k6 _ _ (k5 _ _ (k4 _ _ (upd_same (a := p3))))))))
  have e2 := k10 _ _ (k9 _ _ (k8 _ _ (k7 _ _ (k6 _ _ (k5 _ _ (k4 _ _ (k3 _ _ (upd_same (a := p2)))))))))
  have e1 := k10 _ _ (k9 _ _ (k8 _ _ (k7 _ _ (k6 _ _ (k5 _ _ (k4 _ _ (k3 _ _ (k2 _ _ (upd_same (a := p1))))))))))
  refine ⟨_, rfl, _, rfl, wl, 15, _, rfl, by decide, by decide, hw10, by omega, fun r1 H11 a1 b1 g11 w11 => ?_⟩
  have f1 := (off_ne w1).trans (g11 _ _ w1 e1)
  have f2 := (off_ne w2).trans (g11 _ _ w2 e2)
  have f3 := (off_ne w3).trans (g11 _ _ w3 e3)
  have f4 := (off_ne w4).trans (g11 _ _ w4 e4)
  have f5 := (off_ne w5).trans (g11 _ _ w5 e5)
  have f6 := (off_ne w6).trans (g11 _ _ w6 e6)
  have f7 := (off_ne w7).trans (g11 _ _ w7 e7)
  have f8 := (off_ne w8).trans (g11 _ _ w8 e8)
  have f9 := (off_ne w9).trans (g11 _ _ w9 e9)
  have f10 := g11 _ _ w10 upd_same
  have b11 : But wl H H11 := (But.of K10).trans g11
  have fin : ∀ (d : PyData) (u : V), Dat (off wl H11) d u → OkD d → szD d ≤ 10 → d.depth ≤ 3 → Q u H11 := fun d u h1 h2 h3 h4 => q d u H11 b11 w11 h1 h2 h3 h4
  have cs : r1 = 0 ∨ r1 = 1 ∨ r1 = 2 ∨ r1 = 3 ∨ r1 = 4 ∨ r1 = 5 ∨ r1 = 6 ∨ r1 = 7 ∨ r1 = 8 ∨ r1 = 9 ∨ r1 = 10 ∨ r1 = 11 ∨ r1 = 12 ∨ r1 = 13 ∨ r1 = 14 := by omega
  rcases cs with rfl | rfl | rfl | rfl | rfl | rfl | rfl | rfl | rfl | rfl | rfl | rfl | rfl | rfl | rfl
  · exact ⟨p10, _, _, _, rfl, rfl, SqL.of f10, rfl, fin .none _ (by simp only [Dat]) (by simp only [OkD]) (by simp [szD]) (by simp [PyData.depth])⟩
  · exact ⟨p10, _, _, _, rfl, rfl, SqL.of f10, rfl, fin (.bool true) _ (by simp only [Dat]) (by simp only [OkD]) (by simp [szD]) (by simp [PyData.depth])⟩
  · exact ⟨p10, _, _, _, rfl, rfl, SqL.of f10, rfl, fin (.bool false) _ (by simp only [Dat]) (by simp only [OkD]) (by simp [szD]) (by simp [PyData.depth])⟩
  · exact ⟨p10, _, _, _, rfl, rfl, SqL.of f10, rfl, fin (.str "") _ (by simp only [Dat]) (by simp only [OkD]; decide +kernel) (by simp [szD]) (by simp [PyData.depth])⟩
  · exact ⟨p10, _, _, _, rfl, rfl, SqL.of f10, rfl, fin (.str "+") _ (by simp only [Dat]) (by simp only [OkD]; decide +kernel) (by simp [szD]) (by simp [PyData.depth])⟩
  · exact ⟨p10, _, _, _, rfl, rfl, SqL.of f10, rfl, fin (.str "3") _ (by simp only [Dat]) (by simp only [OkD]; decide +kernel) (by simp [szD]) (by simp [PyData.depth])⟩
  · exact ⟨p10, _, _, _, rfl, rfl, SqL.of f10, rfl, fin (.list []) _ (by simp only [Dat, DatAll]; exact ⟨p1, _, rfl, f1, rfl⟩) (by simp only [OkD, OkAll]) (by simp [szD, szAll]) (by simp [PyData.depth, PyData.depthAll])⟩
  · exact ⟨p10, _, _, _, rfl, rfl, SqL.of f10, rfl, fin (.list [.int 3]) _ (by simp only [Dat, DatAll]; exact ⟨p2, _, rfl, f2, _, _, rfl, rfl, rfl⟩) (by simp only [OkD, OkAll]; decide) (by simp [szD, szAll]) (by simp [PyData.depth, PyData.depthAll])⟩
  · exact ⟨p10, _, _, _, rfl, rfl, SqL.of f10, rfl, fin (.tuple []) _ (by simp only [Dat, DatAll]; exact ⟨p3, _, rfl, f3, rfl⟩) (by simp only [OkD, OkAll]) (by simp [szD, szAll]) (by simp [PyData.depth, PyData.depthAll])⟩
  · exact ⟨p10, _, _, _, rfl, rfl, SqL.of f10, rfl, fin (.tuple [.int 3]) _ (by simp only [Dat, DatAll]; exact ⟨p4, _, rfl, f4, _, _, rfl, rfl, rfl⟩) (by simp only [OkD, OkAll]; decide) (by simp [szD, szAll]) (by simp [PyData.depth, PyData.depthAll])⟩
  · exact ⟨p10, _, _, _, rfl, rfl, SqL.of f10, rfl, fin (.dict []) _ (by simp only [Dat, DatKv]; exact ⟨p5, _, rfl, f5, rfl⟩) (by simp only [OkD]) (by simp [szD]) (by simp [PyData.depth, PyData.depthKv])⟩
  · exact ⟨p10, _, _, _, rfl, rfl, SqL.of f10, rfl, fin (.tuple [.str "+", .int 1]) _ (by simp only [Dat, DatAll]; exact ⟨p6, _, rfl, f6, _, _, rfl, rfl, _, _, rfl, rfl, rfl⟩) (by simp only [OkD, OkAll]; decide +kernel) (by simp [szD, szAll]) (by simp [PyData.depth, PyData.depthAll])⟩
  · exact ⟨p10, _, _, _, rfl, rfl, SqL.of f10, rfl, fin (.tuple [.str "+", .int 1, .int 2, .int 3]) _ (by simp only [Dat, DatAll]; exact ⟨p7, _, rfl, f7, _, _, rfl, rfl, _, _, rfl, rfl, _, _, rfl, rfl, _, _, rfl, rfl, rfl⟩) (by simp only [OkD, OkAll]; decide +kernel) (by simp [szD, szAll]) (by simp [PyData.depth, PyData.depthAll])⟩
  · exact ⟨p10, _, _, _, rfl, rfl, SqL.of f10, rfl, fin (.list [.str "+", .int 1, .int 2]) _ (by simp only [Dat, DatAll]; exact ⟨p8, _, rfl, f8, _, _, rfl, rfl, _, _, rfl, rfl, _, _, rfl, rfl, rfl⟩) (by simp only [OkD, OkAll]; decide +kernel) (by simp [szD, szAll]) (by simp [PyData.depth, PyData.depthAll])⟩
  · exact ⟨p10, _, _, _, rfl, rfl, SqL.of f10, rfl, fin (.tuple [.int 1, .str "+", .int 2]) _ (by simp only [Dat, DatAll]; exact ⟨p9, _, rfl, f9, _, _, rfl, rfl, _, _, rfl, rfl, _, _, rfl, rfl, rfl⟩) (by simp only [OkD, OkAll]; decide +kernel) (by simp [szD, szAll]) (by simp [PyData.depth, PyData.depthAll])⟩
end
end Put
set_option Elab.async false
set_option linter.all false
set_option maxRecDepth 100000
set_option maxHeartbeats 4000000
namespace Put
open PySem L2
def wyDat : Wy → PyData
  | .num i => .int i
  | .node g l r => .tuple [.str g.str, wyDat l, wyDat r]
theorem WyIn.off {H : Hp} {wl : Addr} {M : Int} (hw : Wel H wl M) : ∀ {w : Wy} {v : V}, WyIn H w v → Dat (off wl H) (wyDat w) v
  | .num i, v, h => by
    simp only [wyDat, Dat]; exact h
  | .node g l r, v, h => by
    obtain ⟨a, vl, vr, rfl, ha, hl, hr⟩ := h
    have ne : a ≠ wl := fun e => by
      obtain ⟨_, _, _, z, _⟩ := hw
      rw [e, z] at ha; cases ha
    simp only [wyDat, Dat, DatAll]
    exact ⟨a, _, rfl, (off_ne ne).trans ha, _, _, rfl, rfl, _, _, rfl, WyIn.off hw hl, _, _, rfl, WyIn.off hw hr, rfl⟩
theorem wy_depth : ∀ w : Wy, (wyDat w).depth ≤ w.deep
  | .num i => by simp [wyDat, PyData.depth]
  | .node g l r => by
    have a := wy_depth l; have b := wy_depth r
    simp only [wyDat, PyData.depth, PyData.depthAll]
    show max 0 (max (wyDat l).depth (max (wyDat r).depth 0)) + 1 ≤ max l.deep r.deep + 1
    omega
theorem wy_sz : ∀ w : Wy, szD (wyDat w) + 2 ≤ 3 * w.size
  | .num i => by simp [wyDat, szD, Wy.size]
  | .node g l r => by
    have a := wy_sz l; have b := wy_sz r
    simp only [wyDat, szD, szAll]
    show _ ≤ 3 * (l.size + r.size)
    omega
def Wy.Sm (w : Wy) : Prop := ∀ i ∈ w.nums, i.natAbs < 10 ^ 13
theorem Wy.Sm.l {g : Sg} {l r : Wy} (h : (Wy.node g l r).Sm) : l.Sm := fun i hi => h i (List.mem_append_left _ hi)
theorem Wy.Sm.r {g : Sg} {l r : Wy} (h : (Wy.node g l r).Sm) : r.Sm := fun i hi => h i (List.mem_append_right _ hi)
theorem sg_ok (g : Sg) : OkD (.str g.str) := by simp only [OkD]; cases g <;> decide +kernel
theorem wy_ok : ∀ w : Wy, w.Sm → OkD (wyDat w)
  | .num i, h => by simp only [wyDat, OkD]; exact h i List.mem_cons_self
  | .node g l r, h => by
    simp only [wyDat, OkD, OkAll]
    exact ⟨by simpa only [OkD] using sg_ok g, wy_ok l h.l, wy_ok r h.r, trivial⟩
theorem small_sm {ns : List Int} {w : Wy} (h : Small ns) (e : w.nums = ns) : w.Sm := fun i hi => by
  rw [e] at hi
  have := h i hi
  have z : (10 : Nat) ^ 13 = 10000000000000 := by decide
  omega
theorem off_upd {wl p : Addr} {H : Hp} {o : HO} (h : p ≠ wl) : off wl (upd H p o) p = some o := (off_ne h).trans upd_same
theorem off_new {wl p : Addr} {H : Hp} {o : HO} (h : H p = none) : Same (off wl H) (off wl (upd H p o)) := off_but (But.new h o)
section
variable {P : Program} {w : World} {K : PySem.W.Frag} {mg : Str → Option Value} {base : Heap} {f : Addr} {fd : FuncData}
def spBad (n : Nat) : Sp := fun vs H Q _ => ∃ wl w v M, vs = [.ref wl, v] ∧ WyIn H w v ∧ w.deep ≤ n ∧ n ≤ 20 ∧ w.Sm ∧ Wel H wl M ∧ M + 5 * n < 999980000 ∧
  ∀ d u H', But wl H H' → Wel H' wl (M + 5 * n) → Dat (off wl H') d u → OkD d → szD d ≤ 3 * w.size + 20 → d.depth ≤ w.deep + 4 → Q u H'
abbrev s__law_bad_way : Stmt := top 57
theorem sc__law_bad_way : FnScope ["well", "way", "sign", "left", "right", "kind", "bad", "some"] ["well", "way"] (defScope s__law_bad_way) := ⟨rfl, rfl, rfl, by decide +kernel, rfl, by decide +kernel, by decide +kernel⟩
theorem ok_bad (F : Fun K "_law_bad_way" "_law_bad_way" s__law_bad_way f fd) (bF : Binds K fd ["well", "way"] []) (mF : mg "_law_bad_way" = some (.ref f)) (B : Bu K mg) (C__law_draw : Cal P w K mg base "_law_draw" 2 ["well", "many"] spDraw) (C__law_odd : Cal P w K mg base "_law_odd" 3 ["well"] spOdd) :
    ∀ n, FnOk P w K mg base CX0 (n + 3) f fd ["well", "way"] (spBad n) := by
  intro n
  induction n with
  | zero =>
    refine ⟨fun vs H Q E h => ?_, fun A outer s H args us vs Q E _ _ _ _ h => ?_⟩
    · obtain ⟨wl, x, v, M, rfl, _⟩ := h
      rfl
    · obtain ⟨wl, wy, v, M, _, _, hd, _⟩ := h
      cases wy <;> exact absurd hd (by simp [Wy.deep])
  | succ n ih =>
    have C__law_bad_way : Cal P w K mg base "_law_bad_way" (n + 3) ["well", "way"] (spBad n) := ⟨f, fd, ih, bF, F.kp, mF⟩
    refine F.ok sc__law_bad_way (fun vs H Q E h => ?_) (fun cdv A outer s H vs Q E hr h => ?_)
    · obtain ⟨wl, x, v, M, rfl, _⟩ := h
      rfl
    obtain ⟨wl, wy, v, M, rfl, hw, hdp, hn, hsm, hwl, hM, q⟩ := h
    refine ⟨_, (@pss_cons _ _ _ _ _ (@ps_if _ _ _ _ _ _ _ _ (@PW.pt _ _ _ (@pw_or _ _ _ _ _ _ _ (@pt_not _ _ _ _ (@pt_val _ _ _ (@pe_callB _ _ _ _ _ _ _ _ _ (@call_isinst _ ("tuple")) rfl B.iisinstance PyProof.Rows.boot_isinstance (@pa_cons _ _ _ _ _ (@pv _ 1 _ _ (by rfl) (by first | exact Or.inl rfl | exact Or.inr ( Or.inl rfl ) | exact Or.inr ( Or.inr rfl )) (by decide) (by decide)) (@pa_cons _ _ _ _ _ (@pe_bltn _ _ (.ty "tuple") _ _ rfl B.ituple PyProof.Rows.boot_tuple rfl (by decide) (by decide)) pa_nil (by rfl)) (by rfl)) (by decide) (by decide) (by rfl) (by rfl)) (by intro _; rfl))) (@pw_or1 _ _ _ _ (@pt_cmpR _ _ _ _ _ _ _ _ op_eq (@pe_cal _ _ _ _ _ _ _ _ _ _ _ C__law_draw hr (by omega) rfl (@pa_cons _ _ _ _ _ (@pv _ 0 _ _ (by rfl) (by first | exact Or.inl rfl | exact Or.inr ( Or.inl rfl ) | exact Or.inr ( Or.inr rfl )) (by decide) (by decide)) (@pa_cons _ _ _ _ _ pe_int pa_nil (by rfl)) (by rfl)) (by decide) (by rfl) (by rfl)) pe_int (nomark _))))) (@pss_one _ _ _ (@ps_ret _ _ _ _ (@pe_cal _ _ _ _ _ _ _ _ _ _ _ C__law_odd hr (by omega) rfl (@pa_cons _ _ _ _ _ (@pv _ 0 _ _ (by rfl) (by first | exact Or.inl rfl | exact Or.inr ( Or.inl rfl ) | exact Or.inr ( Or.inr rfl )) (by decide) (by decide)) pa_nil (by rfl)) (by decide) (by rfl) (by rfl)))) pss_nil) (@pss_cons _ _ _ _ _ (@ps_asg _ _ _ _ _ _ (@pv _ 1 _ _ (by rfl) (by first | exact Or.inl rfl | exact Or.inr ( Or.inl rfl ) | exact Or.inr ( Or.inr rfl )) (by decide) (by decide)) (@pg_tup _ _ _ _ _ _ rfl (@pgs_cons _ _ _ _ _ (@pg_name _ _ (2) _ (sc__law_bad_way).nd rfl (Or.inl rfl) (by first | exact .inl rfl | exact .inr rfl | assumption)) (@pgs_cons _ _ _ _ _ (@pg_name _ _ (3) _ (sc__law_bad_way).nd rfl (Or.inl rfl) (by first | exact .inl rfl | exact .inr rfl | assumption)) (@pgs_cons _ _ _ _ _ (@pg_name _ _ (4) _ (sc__law_bad_way).nd rfl (Or.inl rfl) (by first | exact .inl rfl | exact .inr rfl | assumption)) pgs_nil (by rfl)) (by rfl)) (by rfl)) (by rfl) (by rfl)) (by rfl) (by rfl) (by rfl)) (@pss_cons _ _ _ _ _ (@ps_set _ _ (5) _ _ _ _ (sc__law_bad_way).nd rfl (Or.inl rfl) (@pe_cal _ _ _ _ _ _ _ _ _ _ _ C__law_draw hr (by omega) rfl (@pa_cons _ _ _ _ _ (@pv _ 0 _ _ (by rfl) (by first | exact Or.inl rfl | exact Or.inr ( Or.inl rfl ) | exact Or.inr ( Or.inr rfl )) (by decide) (by decide)) (@pa_cons _ _ _ _ _ pe_int pa_nil (by rfl)) (by rfl)) (by decide) (by rfl) (by rfl)) (by rfl) (by first | exact .inl rfl | exact .inr rfl | assumption)) (@pss_cons _ _ _ _ _ (@ps_if _ _ _ _ _ _ _ _ (@pt_cmpR _ _ _ _ _ _ _ _ op_lt (@pv _ 5 _ _ (by rfl) (by first | exact Or.inl rfl | exact Or.inr ( Or.inl rfl ) | exact Or.inr ( Or.inr rfl )) (by decide) (by decide)) pe_int (nomark _)) (@pss_one _ _ _ (@ps_ret _ _ _ _ (@pe_tup _ _ _ _ _ (@pa_cons _ _ _ _ _ (@pv _ 2 _ _ (by rfl) (by first | exact Or.inl rfl | exact Or.inr ( Or.inl rfl ) | exact Or.inr ( Or.inr rfl )) (by decide) (by decide)) (@pa_cons _ _ _ _ _ (@pe_cal _ _ _ _ _ _ _ _ _ _ _ C__law_bad_way hr (by omega) rfl (@pa_cons _ _ _ _ _ (@pv _ 0 _ _ (by rfl) (by first | exact Or.inl rfl | exact Or.inr ( Or.inl rfl ) | exact Or.inr ( Or.inr rfl )) (by decide) (by decide)) (@pa_cons _ _ _ _ _ (@pv _ 3 _ _ (by rfl) (by first | exact Or.inl rfl | exact Or.inr ( Or.inl rfl ) | exact Or.inr ( Or.inr rfl )) (by decide) (by decide)) pa_nil (by rfl)) (by rfl)) (by decide) (by rfl) (by rfl)) (@pa_cons _ _ _ _ _ (@pv _ 4 _ _ (by rfl) (by first | exact Or.inl rfl | exact Or.inr ( Or.inl rfl ) | exact Or.inr ( Or.inr rfl )) (by decide) (by decide)) pa_nil (by rfl)) (by rfl)) (by rfl))))) pss_nil) (@pss_cons _ _ _ _ _ (@ps_if _ _ _ _ _ _ _ _ (@pt_cmpR _ _ _ _ _ _ _ _ op_lt (@pv _ 5 _ _ (by rfl) (by first | exact Or.inl rfl | exact Or.inr ( Or.inl rfl ) | exact Or.inr ( Or.inr rfl )) (by decide) (by decide)) pe_int (nomark _)) (@pss_one _ _ _ (@ps_ret _ _ _ _ (@pe_tup _ _ _ _ _ (@pa_cons _ _ _ _ _ (@pv _ 2 _ _ (by rfl) (by first | exact Or.inl rfl | exact Or.inr ( Or.inl rfl ) | exact Or.inr ( Or.inr rfl )) (by decide) (by decide)) (@pa_cons _ _ _ _ _ (@pv _ 3 _ _ (by rfl) (by first | exact Or.inl rfl | exact Or.inr ( Or.inl rfl ) | exact Or.inr ( Or.inr rfl )) (by decide) (by decide)) (@pa_cons _ _ _ _ _ (@pe_cal _ _ _ _ _ _ _ _ _ _ _ C__law_bad_way hr (by omega) rfl (@pa_cons _ _ _ _ _ (@pv _ 0 _ _ (by rfl) (by first | exact Or.inl rfl | exact Or.inr ( Or.inl rfl ) | exact Or.inr ( Or.inr rfl )) (by decide) (by decide)) (@pa_cons _ _ _ _ _ (@pv _ 4 _ _ (by rfl) (by first | exact Or.inl rfl | exact Or.inr ( Or.inl rfl ) | exact Or.inr ( Or.inr rfl )) (by decide) (by decide)) pa_nil (by rfl)) (by rfl)) (by decide) (by rfl) (by rfl)) pa_nil (by rfl)) (by rfl)) (by rfl))))) pss_nil) (@pss_cons _ _ _ _ _ (@ps_set _ _ (6) _ _ _ _ (sc__law_bad_way).nd rfl (Or.inl rfl) (@pe_ix _ _ _ _ _ _ _ ix_list (@pe_lst _ _ _ _ (@pa_cons _ _ _ _ _ pe_str (@pa_cons _ _ _ _ _ pe_str (@pa_cons _ _ _ _ _ pe_str (@pa_cons _ _ _ _ _ pe_str (@pa_cons _ _ _ _ _ pe_str (@pa_cons _ _ _ _ _ pe_str (@pa_cons _ _ _ _ _ pe_non (@pa_cons _ _ _ _ _ pe_int (@pa_cons _ _ _ _ _ (@pe_tup _ _ _ _ _ (@pa_cons _ _ _ _ _ pe_str pa_nil (by rfl))) (@pa_cons _ _ _ _ _ (@pe_lst _ _ _ _ (@pa_cons _ _ _ _ _ pe_str pa_nil (by rfl))) pa_nil (by rfl)) (by rfl)) (by rfl)) (by rfl)) (by rfl)) (by rfl)) (by rfl)) (by rfl)) (by rfl)) (by rfl))) (@pe_cal _ _ _ _ _ _ _ _ _ _ _ C__law_draw hr (by omega) rfl (@pa_cons _ _ _ _ _ (@pv _ 0 _ _ (by rfl) (by first | exact Or.inl rfl | exact Or.inr ( Or.inl rfl ) | exact Or.inr ( Or.inr rfl )) (by decide) (by decide)) (@pa_cons _ _ _ _ _ pe_int pa_nil (by rfl)) (by rfl)) (by decide) (by rfl) (by rfl)) (fun _ _ => rfl)) (by rfl) (by first | exact .inl rfl | exact .inr rfl | assumption)) (@pss_cons _ _ _ _ _ (@ps_set _ _ (7) _ _ _ _ (sc__law_bad_way).nd rfl (Or.inl rfl) (@pe_lst _ _ _ _ (@pa_cons _ _ _ _ _ (@pe_tup _ _ _ _ _ (@pa_cons _ _ _ _ _ (@pv _ 6 _ _ (by rfl) (by first | exact Or.inl rfl | exact Or.inr ( Or.inl rfl ) | exact Or.inr ( Or.inr rfl )) (by decide) (by decide)) (@pa_cons _ _ _ _ _ (@pv _ 3 _ _ (by rfl) (by first | exact Or.inl rfl | exact Or.inr ( Or.inl rfl ) | exact Or.inr ( Or.inr rfl )) (by decide) (by decide)) (@pa_cons _ _ _ _ _ (@pv _ 4 _ _ (by rfl) (by first | exact Or.inl rfl | exact Or.inr ( Or.inl rfl ) | exact Or.inr ( Or.inr rfl )) (by decide) (by decide)) pa_nil (by rfl)) (by rfl)) (by rfl))) (@pa_cons _ _ _ _ _ (@pe_lst _ _ _ _ (@pa_cons _ _ _ _ _ (@pv _ 2 _ _ (by rfl) (by first | exact Or.inl rfl | exact Or.inr ( Or.inl rfl ) | exact Or.inr ( Or.inr rfl )) (by decide) (by decide)) (@pa_cons _ _ _ _ _ (@pv _ 3 _ _ (by rfl) (by first | exact Or.inl rfl | exact Or.inr ( Or.inl rfl ) | exact Or.inr ( Or.inr rfl )) (by decide) (by decide)) (@pa_cons _ _ _ _ _ (@pv _ 4 _ _ (by rfl) (by first | exact Or.inl rfl | exact Or.inr ( Or.inl rfl ) | exact Or.inr ( Or.inr rfl )) (by decide) (by decide)) pa_nil (by rfl)) (by rfl)) (by rfl))) (@pa_cons _ _ _ _ _ (@pe_tup _ _ _ _ _ (@pa_cons _ _ _ _ _ (@pv _ 2 _ _ (by rfl) (by first | exact Or.inl rfl | exact Or.inr ( Or.inl rfl ) | exact Or.inr ( Or.inr rfl )) (by decide) (by decide)) (@pa_cons _ _ _ _ _ (@pv _ 3 _ _ (by rfl) (by first | exact Or.inl rfl | exact Or.inr ( Or.inl rfl ) | exact Or.inr ( Or.inr rfl )) (by decide) (by decide)) pa_nil (by rfl)) (by rfl))) (@pa_cons _ _ _ _ _ (@pe_tup _ _ _ _ _ (@pa_cons _ _ _ _ _ (@pv _ 2 _ _ (by rfl) (by first | exact Or.inl rfl | exact Or.inr ( Or.inl rfl ) | exact Or.inr ( Or.inr rfl )) (by decide) (by decide)) (@pa_cons _ _ _ _ _ (@pv _ 3 _ _ (by rfl) (by first | exact Or.inl rfl | exact Or.inr ( Or.inl rfl ) | exact Or.inr ( Or.inr rfl )) (by decide) (by decide)) (@pa_cons _ _ _ _ _ (@pv _ 4 _ _ (by rfl) (by first | exact Or.inl rfl | exact Or.inr ( Or.inl rfl ) | exact Or.inr ( Or.inr rfl )) (by decide) (by decide)) (@pa_cons _ _ _ _ _ pe_int pa_nil (by rfl)) (by rfl)) (by rfl)) (by rfl))) (@pa_cons _ _ _ _ _ (@pe_tup _ _ _ _ _ (@pa_cons _ _ _ _ _ (@pv _ 3 _ _ (by rfl) (by first | exact Or.inl rfl | exact Or.inr ( Or.inl rfl ) | exact Or.inr ( Or.inr rfl )) (by decide) (by decide)) (@pa_cons _ _ _ _ _ (@pv _ 2 _ _ (by rfl) (by first | exact Or.inl rfl | exact Or.inr ( Or.inl rfl ) | exact Or.inr ( Or.inr rfl )) (by decide) (by decide)) (@pa_cons _ _ _ _ _ (@pv _ 4 _ _ (by rfl) (by first | exact Or.inl rfl | exact Or.inr ( Or.inl rfl ) | exact Or.inr ( Or.inr rfl )) (by decide) (by decide)) pa_nil (by rfl)) (by rfl)) (by rfl))) pa_nil (by rfl)) (by rfl)) (by rfl)) (by rfl)) (by rfl))) (by rfl) (by first | exact .inl rfl | exact .inr rfl | assumption)) (@pss_one _ _ _ (@ps_ret _ _ _ _ (@pe_ix _ _ _ _ _ _ _ ix_list (@pv _ 7 _ _ (by rfl) (by first | exact Or.inl rfl | exact Or.inr ( Or.inl rfl ) | exact Or.inr ( Or.inr rfl )) (by decide) (by decide)) (@pe_ix _ _ _ _ _ _ _ ix_list (@pe_lst _ _ _ _ (@pa_cons _ _ _ _ _ pe_int (@pa_cons _ _ _ _ _ pe_int (@pa_cons _ _ _ _ _ pe_int (@pa_cons _ _ _ _ _ pe_int (@pa_cons _ _ _ _ _ pe_int (@pa_cons _ _ _ _ _ pe_int pa_nil (by rfl)) (by rfl)) (by rfl)) (by rfl)) (by rfl)) (by rfl))) (@pe_cal _ _ _ _ _ _ _ _ _ _ _ C__law_draw hr (by omega) rfl (@pa_cons _ _ _ _ _ (@pv _ 0 _ _ (by rfl) (by first | exact Or.inl rfl | exact Or.inr ( Or.inl rfl ) | exact Or.inr ( Or.inr rfl )) (by decide) (by decide)) (@pa_cons _ _ _ _ _ pe_int pa_nil (by rfl)) (by rfl)) (by decide) (by rfl) (by rfl)) (fun _ _ => rfl)) (fun _ _ => rfl))))))))))), ?_⟩
    cases wy with
    | num i =>
      cases hw
      refine ⟨_, rfl, _, _, false, rfl, .int i, rfl, false, rfl, iteT ?_⟩
      refine iteT ⟨_, rfl, wl, M, rfl, hwl, by omega, fun d u H' b' w' hd ok sz dp => q d u H' b' (w'.more (by omega)) hd ok ?_ ?_⟩
      · show szD d ≤ 3 * 1 + 20; omega
      · show d.depth ≤ 1 + 4; omega
    | node g l r =>
      obtain ⟨a, vl, vr, rfl, ha, hl, hr'⟩ := hw
      have dd : max l.deep r.deep + 1 ≤ n + 1 := hdp
      have ez : (Wy.node g l r).size = l.size + r.size := rfl
      have ed : (Wy.node g l r).deep = max l.deep r.deep + 1 := rfl
      rw [ez, ed] at q
      have wl1 := wy_sz l; have wr1 := wy_sz r
      have dl1 := wy_depth l; have dr1 := wy_depth r
      have okl := wy_ok l hsm.l; have okr := wy_ok r hsm.r
      refine ⟨_, rfl, _, _, true, rfl, .tup ha, rfl, true, rfl, iteF ?_⟩
      refine ⟨_, rfl, wl, 4, M, rfl, by decide, by decide, hwl, by omega, fun r1 H1 a1 b1 g1 w1 => ⟨rfl, _, rfl, ite2 (fun _ => ?_) (fun _ => ?_)⟩⟩
      · exact ⟨_, rfl, wl, _, rfl, w1, by omega, fun d u H' b' w' hd ok sz dp => q d u H' (g1.trans b') (w'.more (by omega)) hd ok (by omega) (by omega)⟩
      have t1 := hwl.tups g1
      have ha1 := t1 _ _ ha
      refine ⟨_, rfl, a, _, rfl, SqT.of ha1, rfl, _, _, rfl, _, _, rfl, _, _, rfl, rfl, ?_⟩
      refine ⟨_, rfl, wl, 12, _, rfl, by decide, by decide, w1, by omega, fun r2 H2 a2 b2 g2 w2 => ?_⟩
      have t2 := t1.trans (w1.tups g2)
      have hl2 := hl.mono t2
      have hr2 := hr'.mono t2
      have G2 := g1.trans g2
      have sgok := sg_ok g
      refine ⟨_, rfl, _, _, rfl, rfl, _, rfl, ite2 (fun _ => ?_) (fun _ => ?_)⟩
      · refine ⟨_, rfl, _, rfl, _, rfl, wl, l, vl, _, rfl, hl2, by omega, by omega, hsm.l, w2, by omega, fun d u H3 g3 w3 hd ok sz dp => ?_⟩
        refine ⟨_, rfl, (by show 3 ≤ sizeLine; decide), fun p np => ?_⟩
        have npw := w3.ne np
        have hr3 := WyIn.off w3 (hr2.mono (w2.tups g3))
        refine q (.tuple [.str g.str, d, wyDat r]) (.ref p) _ ((G2.trans g3).trans (But.new np _)) ((w3.keep (Same.new np _) (Int.le_refl _)).more (by omega)) ?_ ?_ ?_ ?_
        · simp only [Dat, DatAll]
          exact ⟨p, _, rfl, off_upd npw, _, _, rfl, rfl, _, _, rfl, Dat.mono (off_new np) d u hd, _, _, rfl, Dat.mono (off_new np) _ _ hr3, rfl⟩
        · simp only [OkD, OkAll] at sgok ⊢
          exact ⟨sgok, ok, okr, trivial⟩
        · simp only [szD, szAll]; omega
        · simp only [PyData.depth, PyData.depthAll]; omega
      refine ⟨_, rfl, _, _, rfl, rfl, _, rfl, ite2 (fun _ => ?_) (fun _ => ?_)⟩
      · refine ⟨_, rfl, _, rfl, _, rfl, _, rfl, wl, r, vr, _, rfl, hr2, by omega, by omega, hsm.r, w2, by omega, fun d u H3 g3 w3 hd ok sz dp => ?_⟩
        refine ⟨(by show 3 ≤ sizeLine; decide), fun p np => ?_⟩
        have npw := w3.ne np
        have hl3 := WyIn.off w3 (hl2.mono (w2.tups g3))
        refine q (.tuple [.str g.str, wyDat l, d]) (.ref p) _ ((G2.trans g3).trans (But.new np _)) ((w3.keep (Same.new np _) (Int.le_refl _)).more (by omega)) ?_ ?_ ?_ ?_
        · simp only [Dat, DatAll]
          exact ⟨p, _, rfl, off_upd npw, _, _, rfl, rfl, _, _, rfl, Dat.mono (off_new np) _ _ hl3, _, _, rfl, Dat.mono (off_new np) d u hd, rfl⟩
        · simp only [OkD, OkAll] at sgok ⊢
          exact ⟨sgok, okl, ok, trivial⟩
        · simp only [szD, szAll]; omega
        · simp only [PyData.depth, PyData.depthAll]; omega
      refine ⟨(by show 1 ≤ sizeLine; decide), fun c1 m1 => ⟨(by show 1 ≤ sizeLine; decide), fun c2 m2 => ⟨(by show 10 ≤ sizeLine; decide), fun c3 m3 => ?_⟩⟩⟩
      have k1 := Same.new m1 (.tup [.str "+"])
      have k2 := Same.new m2 (.lst [.str "+"])
      have k3 := Same.new m3 (.lst [.str "/", .str "++", .str "", .str "x", .str " +", .str "+-", .non, .int 1, .ref c1, .ref c2])
      have nc1 := w2.ne m1
      have nc2 := (w2.keep k1 (Int.le_refl _)).ne m2
      have nc3 := (w2.keep (k1.trans k2) (Int.le_refl _)).ne m3
      have w3 := w2.keep ((k1.trans k2).trans k3) (Int.le_refl _)
      have ec1 := k3 _ _ (k2 _ _ (upd_same (H := H2) (a := c1) (o := .tup [.str "+"])))
      have ec2 := k3 _ _ (upd_same (H := upd H2 c1 (.tup [.str "+"])) (a := c2) (o := .lst [.str "+"]))
      refine ⟨_, rfl, wl, 10, _, rfl, by decide, by decide, w3, by omega, fun r3 H4 a3 b3 g4 w4 => ?_⟩
      have f1 := (off_ne nc1).trans (g4 _ _ nc1 ec1)
      have f2 := (off_ne nc2).trans (g4 _ _ nc2 ec2)
      have f3 := g4 _ _ nc3 upd_same
      have hb : ∃ bd bv, atI [V.str "/", .str "++", .str "", .str "x", .str " +", .str "+-", .non, .int 1, .ref c1, .ref c2] r3 = some bv ∧ Dat (off wl H4) bd bv ∧ OkD bd ∧ szD bd ≤ 2 ∧ bd.depth ≤ 1 := by
        have cs : r3 = 0 ∨ r3 = 1 ∨ r3 = 2 ∨ r3 = 3 ∨ r3 = 4 ∨ r3 = 5 ∨ r3 = 6 ∨ r3 = 7 ∨ r3 = 8 ∨ r3 = 9 := by omega
        rcases cs with rfl | rfl | rfl | rfl | rfl | rfl | rfl | rfl | rfl | rfl
        · exact ⟨.str "/", _, rfl, by simp only [Dat], by simp only [OkD]; decide +kernel, by simp [szD], by simp [PyData.depth]⟩
        · exact ⟨.str "++", _, rfl, by simp only [Dat], by simp only [OkD]; decide +kernel, by simp [szD], by simp [PyData.depth]⟩
        · exact ⟨.str "", _, rfl, by simp only [Dat], by simp only [OkD]; decide +kernel, by simp [szD], by simp [PyData.depth]⟩
        · exact ⟨.str "x", _, rfl, by simp only [Dat], by simp only [OkD]; decide +kernel, by simp [szD], by simp [PyData.depth]⟩
        · exact ⟨.str " +", _, rfl, by simp only [Dat], by simp only [OkD]; decide +kernel, by simp [szD], by simp [PyData.depth]⟩
        · exact ⟨.str "+-", _, rfl, by simp only [Dat], by simp only [OkD]; decide +kernel, by simp [szD], by simp [PyData.depth]⟩
        · exact ⟨.none, _, rfl, by simp only [Dat], by simp only [OkD], by simp [szD], by simp [PyData.depth]⟩
        · exact ⟨.int 1, _, rfl, by simp only [Dat], by simp only [OkD]; decide, by simp [szD], by simp [PyData.depth]⟩
        · exact ⟨.tuple [.str "+"], _, rfl, by simp only [Dat, DatAll]; exact ⟨c1, _, rfl, f1, _, _, rfl, rfl, rfl⟩, by simp only [OkD, OkAll]; decide +kernel, by simp [szD, szAll], by simp [PyData.depth, PyData.depthAll]⟩
        · exact ⟨.list [.str "+"], _, rfl, by simp only [Dat, DatAll]; exact ⟨c2, _, rfl, f2, _, _, rfl, rfl, rfl⟩, by simp only [OkD, OkAll]; decide +kernel, by simp [szD, szAll], by simp [PyData.depth, PyData.depthAll]⟩
      obtain ⟨bd, bv, hat, hbd, bok, bsz, bdp⟩ := hb
      refine ⟨c3, _, _, _, rfl, rfl, SqL.of f3, hat, ?_⟩
      have G4 : But wl H H4 := (G2.trans (But.of ((k1.trans k2).trans k3))).trans g4
      have t4 := (w2.tups (But.of ((k1.trans k2).trans k3))).trans (w3.tups g4)
      have ol := WyIn.off w4 (hl2.mono t4)
      have or' := WyIn.off w4 (hr2.mono t4)
      refine ⟨_, rfl, _, rfl, _, rfl, (by show 3 ≤ sizeLine; decide), fun s1 x1 => ⟨_, rfl, _, rfl, _, rfl, (by show 3 ≤ sizeLine; decide), fun s2 x2 => ⟨_, rfl, _, rfl, (by show 2 ≤ sizeLine; decide), fun s3 x3 => ⟨_, rfl, _, rfl, _, rfl, (by show 4 ≤ sizeLine; decide), fun s4 x4 => ⟨_, rfl, _, rfl, _, rfl, (by show 3 ≤ sizeLine; decide), fun s5 x5 => ⟨(by show 5 ≤ sizeLine; decide), fun s6 x6 => ?_⟩⟩⟩⟩⟩⟩
      have y1 := Same.new x1 (.tup [bv, vl, vr])
      have y2 := Same.new x2 (.lst [.str g.str, vl, vr])
      have y3 := Same.new x3 (.tup [.str g.str, vl])
      have y4 := Same.new x4 (.tup [.str g.str, vl, vr, .int 0])
      have y5 := Same.new x5 (.tup [vl, .str g.str, vr])
      have y6 := Same.new x6 (.lst [.ref s1, .ref s2, .ref s3, .ref s4, .ref s5])
      have Y2 := y1.trans y2
      have Y3 := Y2.trans y3
      have Y4 := Y3.trans y4
      have Y5 := Y4.trans y5
      have Y6 := Y5.trans y6
      have v1 := w4.ne x1
      have v2 := (w4.keep y1 (Int.le_refl _)).ne x2
      have v3 := (w4.keep Y2 (Int.le_refl _)).ne x3
      have v4 := (w4.keep Y3 (Int.le_refl _)).ne x4
      have v5 := (w4.keep Y4 (Int.le_refl _)).ne x5
      have v6 := (w4.keep Y5 (Int.le_refl _)).ne x6
      have u5 := y6 _ _ (upd_same (a := s5))
      have u4 := y6 _ _ (y5 _ _ (upd_same (a := s4)))
      have u3 := y6 _ _ (y5 _ _ (y4 _ _ (upd_same (a := s3))))
      have u2 := y6 _ _ (y5 _ _ (y4 _ _ (y3 _ _ (upd_same (a := s2)))))
      have u1 := y6 _ _ (y5 _ _ (y4 _ _ (y3 _ _ (y2 _ _ (upd_same (a := s1))))))
      have w6 := w4.keep Y6 (Int.le_refl _)
      have u6 := fun h : True => upd_same (H := upd (upd (upd (upd (upd H4 s1 (.tup [bv, vl, vr])) s2 (.lst [.str g.str, vl, vr])) s3 (.tup [.str g.str, vl])) s4 (.tup [.str g.str, vl, vr, .int 0])) s5 (.tup [vl, .str g.str, vr])) (a := s6) (o := .lst [.ref s1, .ref s2, .ref s3, .ref s4, .ref s5])
      have u6 := u6 trivial
      revert u1 u2 u3 u4 u5 u6 w6 Y6
      generalize upd (upd (upd (upd (upd (upd H4 s1 (.tup [bv, vl, vr])) s2 (.lst [.str g.str, vl, vr])) s3 (.tup [.str g.str, vl])) s4 (.tup [.str g.str, vl, vr, .int 0])) s5 (.tup [vl, .str g.str, vr])) s6 (.lst [.ref s1, .ref s2, .ref s3, .ref s4, .ref s5]) = H6
      intro Y6 u5 u4 u3 u2 u1 w6 u6
      refine ⟨_, rfl, (by show 6 ≤ sizeLine; decide), fun s7 x7 => ?_⟩
      have y7 := Same.new x7 (.lst [.int 0, .int 0, .int 1, .int 2, .int 3, .int 4])
      have v7 := w6.ne x7
      have w7 := w6.keep y7 (Int.le_refl _)
      refine ⟨_, rfl, wl, 6, _, rfl, by decide, by decide, w7, by omega, fun r4 H8 a4 b4 g8 w8 => ?_⟩
      have h8 : But wl H H8 := ((G4.trans (But.of Y6)).trans (But.of y7)).trans g8
      have S8 : Same (off wl H4) (off wl H8) := off_but (((But.of Y6).trans (But.of y7)).trans g8)
      have z1 := (off_ne v1).trans (g8 _ _ v1 (y7 _ _ u1))
      have z2 := (off_ne v2).trans (g8 _ _ v2 (y7 _ _ u2))
      have z3 := (off_ne v3).trans (g8 _ _ v3 (y7 _ _ u3))
      have z4 := (off_ne v4).trans (g8 _ _ v4 (y7 _ _ u4))
      have z5 := (off_ne v5).trans (g8 _ _ v5 (y7 _ _ u5))
      have z6 := g8 _ _ v6 (y7 _ _ u6)
      have z7 := g8 _ _ v7 upd_same
      have dl8 := Dat.mono S8 _ _ ol
      have dr8 := Dat.mono S8 _ _ or'
      have db8 := Dat.mono S8 _ _ hbd
      have w9 := w8.more (show _ ≤ M + 5 * ((n + 1 : Nat) : Int) by omega)
      have c1' : ∀ (z : Int), atI [V.int 0, .int 0, .int 1, .int 2, .int 3, .int 4] r4 = some (.int z) → z = 0 ∨ z = 1 ∨ z = 2 ∨ z = 3 ∨ z = 4 → ∃ d u, atI [V.ref s1, .ref s2, .ref s3, .ref s4, .ref s5] z = some u ∧ Dat (off wl H8) d u ∧ OkD d ∧ szD d ≤ 3 * (l.size + r.size) + 20 ∧ d.depth ≤ max l.deep r.deep + 1 + 4 := fun z _ hz => by
        simp only [OkD] at sgok
        rcases hz with rfl | rfl | rfl | rfl | rfl
        · refine ⟨.tuple [bd, wyDat l, wyDat r], _, rfl, ?_, ?_, ?_, ?_⟩
          · simp only [Dat, DatAll]; exact ⟨s1, _, rfl, z1, _, _, rfl, db8, _, _, rfl, dl8, _, _, rfl, dr8, rfl⟩
          · simp only [OkD, OkAll]; exact ⟨bok, okl, okr, trivial⟩
          · simp only [szD, szAll]; omega
          · simp only [PyData.depth, PyData.depthAll]; omega
        · refine ⟨.list [.str g.str, wyDat l, wyDat r], _, rfl, ?_, ?_, ?_, ?_⟩
          · simp only [Dat, DatAll]; exact ⟨s2, _, rfl, z2, _, _, rfl, rfl, _, _, rfl, dl8, _, _, rfl, dr8, rfl⟩
          · simp only [OkD, OkAll]; exact ⟨sgok, okl, okr, trivial⟩
          · simp only [szD, szAll]; omega
          · simp only [PyData.depth, PyData.depthAll]; omega
        · refine ⟨.tuple [.str g.str, wyDat l], _, rfl, ?_, ?_, ?_, ?_⟩
          · simp only [Dat, DatAll]; exact ⟨s3, _, rfl, z3, _, _, rfl, rfl, _, _, rfl, dl8, rfl⟩
          · simp only [OkD, OkAll]; exact ⟨sgok, okl, trivial⟩
          · simp only [szD, szAll]; omega
          · simp only [PyData.depth, PyData.depthAll]; omega
        · refine ⟨.tuple [.str g.str, wyDat l, wyDat r, .int 0], _, rfl, ?_, ?_, ?_, ?_⟩
          · simp only [Dat, DatAll]; exact ⟨s4, _, rfl, z4, _, _, rfl, rfl, _, _, rfl, dl8, _, _, rfl, dr8, _, _, rfl, rfl, rfl⟩
          · simp only [OkD, OkAll]; exact ⟨sgok, okl, okr, by decide, trivial⟩
          · simp only [szD, szAll]; omega
          · simp only [PyData.depth, PyData.depthAll]; omega
        · refine ⟨.tuple [wyDat l, .str g.str, wyDat r], _, rfl, ?_, ?_, ?_, ?_⟩
          · simp only [Dat, DatAll]; exact ⟨s5, _, rfl, z5, _, _, rfl, dl8, _, _, rfl, rfl, _, _, rfl, dr8, rfl⟩
          · simp only [OkD, OkAll]; exact ⟨okl, sgok, okr, trivial⟩
          · simp only [szD, szAll]; omega
          · simp only [PyData.depth, PyData.depthAll]; omega
      have ix : ∃ z : Int, atI [V.int 0, .int 0, .int 1, .int 2, .int 3, .int 4] r4 = some (.int z) ∧ (z = 0 ∨ z = 1 ∨ z = 2 ∨ z = 3 ∨ z = 4) := by
        have cs : r4 = 0 ∨ r4 = 1 ∨ r4 = 2 ∨ r4 = 3 ∨ r4 = 4 ∨ r4 = 5 := by omega
        rcases cs with rfl | rfl | rfl | rfl | rfl | rfl
        · exact ⟨0, rfl, by omega⟩
        · exact ⟨0, rfl, by omega⟩
        · exact ⟨1, rfl, by omega⟩
        · exact ⟨2, rfl, by omega⟩
        · exact ⟨3, rfl, by omega⟩
        · exact ⟨4, rfl, by omega⟩
      obtain ⟨z, hz1, hz2⟩ := ix
      obtain ⟨d, u, hu, hdd, hok, hsz, hdep⟩ := c1' z hz1 hz2
      refine ⟨s7, _, _, _, rfl, rfl, SqL.of z7, hz1, ?_⟩
      refine ⟨s6, _, _, _, rfl, rfl, SqL.of z6, hu, ?_⟩
      exact q d u H8 h8 w9 hdd hok hsz hdep
end
end Put
set_option Elab.async false
set_option linter.all false
set_option maxRecDepth 100000
set_option maxHeartbeats 2000000
namespace Put
open PySem L2
def isIntD : PyData → Bool
  | .int _ => true
  | _ => false
def isRowD : PyData → Bool
  | .list ds => decide (1 ≤ ds.length) && decide (ds.length ≤ 9) && ds.all isIntD
  | _ => false
def sevenV : List V := [.str "+", .str "-", .str "*", .str "+-", .str "+*", .str "-*", .str "+-*"]
def isSgsD : PyData → Bool
  | .str z => inV (.str z) sevenV
  | _ => false
structure Cp (K : PySem.W.Frag) (mg : Str → Option Value) (tk : Tok) (aP : Addr) : Prop where
  gMOST_NUMBERS : mg "MOST_NUMBERS" = some (.int 9 tk)
  gSIGNS_TO_PUT : mg "SIGNS_TO_PUT" = some (.ref aP)
  sSIGNS_TO_PUT : ∀ H, SqT K H aP sevenV
theorem dat_at {H : Hp} : ∀ {ds : List PyData} {vs : List V}, DatAll H ds vs → ∀ {i : Nat} {x : V}, vs[i]? = some x → ∃ d, ds[i]? = some d ∧ Dat H d x
  | [], vs, h, i, x, e => by simp only [DatAll] at h; subst h; simp at e
  | d :: ds, vs, h, i, x, e => by
    simp only [DatAll] at h
    obtain ⟨v, r, rfl, h1, h2⟩ := h
    cases i with
    | zero => simp at e; subst e; exact ⟨d, rfl, h1⟩
    | succ i => exact dat_at h2 (by simpa using e)
theorem isInt_ty (d : PyData) : decide (tyName d = "int") = isIntD d := by cases d <;> rfl
section
variable {P : Program} {w : World} {K : PySem.W.Frag} {mg : Str → Option Value} {base : Heap} {f : Addr} {fd : FuncData}
def spIsRow : Sp := fun vs H Q _ => ∃ d v, vs = [v] ∧ Dat H d v ∧ ∀ H', Same H H' → Q (.bl (isRowD d)) H'
def isListD : PyData → Bool
  | .list _ => true
  | _ => false
theorem notList {d : PyData} (h : isListD d = false) : isRowD d = false := by cases d <;> first | rfl | simp [isListD] at h
theorem kit_list {d : PyData} {K : PySem.W.Frag} : PySem.W.kitOne K (.type (tyName d)) (.type "list") = some (isListD d) := by cases d <;> rfl
abbrev s_is_row : Stmt := top 18
theorem sc_is_row : FnScope ["thing"] ["thing"] (defScope s_is_row) := ⟨rfl, rfl, rfl, by decide +kernel, rfl, by decide +kernel, by decide +kernel⟩
theorem ok_is_row {tk : Tok} {aP : Addr} (F : Fun K "is_row" "is_row" s_is_row f fd) (B : Bu K mg) (B3 : Cp K mg tk aP) (C_is_whole : Cal P w K mg base "is_whole" 1 ["thing"] (spWhole K)) : FnOk P w K mg base CX0 2 f fd ["thing"] spIsRow := by
  refine F.ok sc_is_row (fun vs H Q E h => ?_) (fun cdv A outer s H vs Q E hr h => ?_)
  · obtain ⟨x, v, rfl, _⟩ := h
    rfl
  obtain ⟨d, v, rfl, hd, q⟩ := h
  refine ⟨_, (@pss_cons _ _ _ _ _ (@ps_if _ _ _ _ _ _ _ _ (@PW.pt _ _ _ (@pw_or _ _ _ _ _ _ _ (@pt_not _ _ _ _ (@pt_val _ _ _ (@pe_callB _ _ _ _ _ _ _ _ _ (@call_isinst _ ("list")) rfl B.iisinstance PyProof.Rows.boot_isinstance (@pa_cons _ _ _ _ _ (@pv _ 0 _ _ (by rfl) (by first | exact Or.inl rfl | exact Or.inr ( Or.inl rfl ) | exact Or.inr ( Or.inr rfl )) (by decide) (by decide)) (@pa_cons _ _ _ _ _ (@pe_bltn _ _ (.ty "list") _ _ rfl B.ilist PyProof.Rows.boot_list rfl (by decide) (by decide)) pa_nil (by rfl)) (by rfl)) (by decide) (by decide) (by rfl) (by rfl)) (by intro _; rfl))) (@pw_or1 _ _ _ _ (@pt_not _ _ _ _ (@pt_chain _ _ _ _ _ _ _ _ _ _ _ _ op_le op_le pe_int (@pe_callB _ _ _ _ _ _ _ _ _ call_len_seq rfl B.ilen PySem.boot_len (@pa_cons _ _ _ _ _ (@pv _ 0 _ _ (by rfl) (by first | exact Or.inl rfl | exact Or.inr ( Or.inl rfl ) | exact Or.inr ( Or.inr rfl )) (by decide) (by decide)) pa_nil (by rfl)) (by decide) (by decide) (by rfl) (by rfl)) (@pe_glob _ _ (.int 9) _ _ rfl B3.gMOST_NUMBERS ⟨_, rfl⟩ (by decide)) (by with_unfolding_all rfl)))))) (@pss_one _ _ _ (@ps_ret _ _ _ _ pe_bl)) pss_nil) (@pss_one _ _ _ (@ps_ret _ _ _ _ (@pe_callB _ _ _ _ _ _ _ _ _ (@call_all _ rfl) rfl B.iall PyProof.Rows.boot_all (@pa_cons _ _ _ _ _ (@pe_lc _ _ _ _ _ _ _ _ (["number"]) ([none]) _ _ _ _ rfl (@pi_list _ _ _ _ (@pv _ 0 _ _ (by rfl) (by first | exact Or.inl rfl | exact Or.inr ( Or.inl rfl ) | exact Or.inr ( Or.inr rfl )) (by decide) (by decide))) rfl trivial trivial (fun _ _ _ _ => ⟨(@pg_name _ _ (0) _ (show List.Nodup (["number"] : List Str) by decide +kernel) rfl (Or.inl rfl) (by first | exact .inl rfl | exact .inr rfl | assumption)), pifs_nil, (@pe_cal _ _ _ _ _ _ _ _ _ _ _ C_is_whole hr (by omega) rfl (@pa_cons _ _ _ _ _ (@pv _ 0 _ _ (by rfl) (by first | exact Or.inl rfl | exact Or.inr ( Or.inl rfl ) | exact Or.inr ( Or.inr rfl )) (by decide) (by decide)) pa_nil (by rfl)) (by decide) (by rfl) (by rfl))⟩) (by rfl) (by rfl) (by rfl) (by rfl) (by intro _; rfl)) pa_nil (by rfl)) (by decide) (by decide) (by rfl) (by rfl))))), ?_⟩
  by_cases hl : isListD d = true
  · cases d with
    | list ds =>
      have hd0 := hd
      simp only [Dat] at hd
      obtain ⟨a, xs, rfl, ea, hall⟩ := hd
      have hlen := hall.len
      refine ⟨_, rfl, _, _, true, rfl, .lst ea, rfl, true, rfl, iteF ?_⟩
      by_cases c1 : 1 ≤ xs.length
      · refine ⟨_, rfl, a, _, rfl, .inl (SqL.of ea), _, _, rfl, rfl, true, congrArg V.bl (decide_eq_true (by omega)), iteT ?_⟩
        by_cases c2 : xs.length ≤ 9
        · refine ⟨_, _, rfl, rfl, true, congrArg V.bl (decide_eq_true (by omega)), iteF ?_⟩
          refine ⟨_, rfl, a, rfl, ⟨_, SqL.of ea⟩, ?_⟩
          refine lc_list (xs := xs) (fun i ys H' => H' = H ∧ ys = ((ds.take i).map isIntD).map V.bl) ⟨rfl, rfl⟩ (fun i ys H' hi p => ⟨by rw [p.1]; exact SqL.of ea, by rw [p.2, List.length_map, List.length_map, List.length_take]; exact small1000 (by omega)⟩) (fun i x ys H' hx p nx => ?_) (fun ys H' p p5 n5 => ?_)
          · obtain ⟨rfl, rfl⟩ := p
            obtain ⟨dd, h1, h2⟩ := dat_at hall hx
            refine ⟨_, rfl, x, _, rfl, h2.ty, nx ⟨rfl, ?_⟩⟩
            rw [isInt_ty, List.take_add_one, h1, List.map_append, List.map_append]
            rfl
          obtain ⟨rfl, rfl⟩ := p
          rw [List.take_of_length_le (by omega)]
          refine ⟨p5, _, rfl, SqL.of upd_same, ?_⟩
          have e : ((ds.map isIntD).all id) = isRowD (.list ds) := by
            show _ = (decide (1 ≤ ds.length) && decide (ds.length ≤ 9) && ds.all isIntD)
            rw [decide_eq_true (show 1 ≤ ds.length by omega), decide_eq_true (show ds.length ≤ 9 by omega), List.all_map]
            rfl
          rw [e]
          exact q _ (Same.new n5 _)
        · refine ⟨_, _, rfl, rfl, false, congrArg V.bl (decide_eq_false (by omega)), iteT ?_⟩
          have z := q H (Same.refl _)
          rw [show isRowD (.list ds) = false by
            show (decide (1 ≤ ds.length) && decide (ds.length ≤ 9) && ds.all isIntD) = false
            rw [decide_eq_false (show ¬ ds.length ≤ 9 by omega)]; simp] at z
          exact z
      · refine ⟨_, rfl, a, _, rfl, .inl (SqL.of ea), _, _, rfl, rfl, false, congrArg V.bl (decide_eq_false (by omega)), iteF ⟨false, rfl, iteT ?_⟩⟩
        have z := q H (Same.refl _)
        rw [show isRowD (.list ds) = false by
          show (decide (1 ≤ ds.length) && decide (ds.length ≤ 9) && ds.all isIntD) = false
          rw [decide_eq_false (show ¬ 1 ≤ ds.length by omega)]; simp] at z
        exact z
    | _ => simp [isListD] at hl
  · have hl' : isListD d = false := by simpa using hl
    refine ⟨_, rfl, _, _, false, rfl, hd.ty, by rw [kit_list, hl'], false, rfl, iteT ?_⟩
    have z := q H (Same.refl _)
    rw [notList hl'] at z
    exact z
def spIsSigns : Sp := fun vs H Q _ => ∃ d v, vs = [v] ∧ Dat H d v ∧ Q (.bl (isSgsD d)) H
abbrev s_is_signs : Stmt := top 19
theorem sc_is_signs : FnScope ["thing"] ["thing"] (defScope s_is_signs) := ⟨rfl, rfl, rfl, by decide +kernel, rfl, by decide +kernel, by decide +kernel⟩
theorem ok_is_signs {tk : Tok} {aP : Addr} (F : Fun K "is_signs" "is_signs" s_is_signs f fd) (B : Bu K mg) (B3 : Cp K mg tk aP) : FnOk P w K mg base CX0 1 f fd ["thing"] spIsSigns := by
  refine F.ok sc_is_signs (fun vs H Q E h => ?_) (fun cdv A outer s H vs Q E hr h => ?_)
  · obtain ⟨x, v, rfl, _⟩ := h
    rfl
  obtain ⟨d, v, rfl, hd, q⟩ := h
  refine ⟨_, (@pss_one _ _ _ (@ps_ret _ _ _ _ (@pe_and _ _ _ _ _ _ _ (@pe_callB _ _ _ _ _ _ _ _ _ (@call_isinst _ ("str")) rfl B.iisinstance PyProof.Rows.boot_isinstance (@pa_cons _ _ _ _ _ (@pv _ 0 _ _ (by rfl) (by first | exact Or.inl rfl | exact Or.inr ( Or.inl rfl ) | exact Or.inr ( Or.inr rfl )) (by decide) (by decide)) (@pa_cons _ _ _ _ _ (@pe_bltn _ _ (.ty "str") _ _ rfl B.istr PyProof.Rows.boot_str rfl (by decide) (by decide)) pa_nil (by rfl)) (by rfl)) (by decide) (by decide) (by rfl) (by rfl)) (@pe_one _ _ _ _ _ (@pe_cmpR _ _ _ _ _ _ _ _ op_in_seq (@pv _ 0 _ _ (by rfl) (by first | exact Or.inl rfl | exact Or.inr ( Or.inl rfl ) | exact Or.inr ( Or.inr rfl )) (by decide) (by decide)) (@pe_glob _ _ (.ref aP) _ _ rfl B3.gSIGNS_TO_PUT rfl (by decide)) (by with_unfolding_all rfl)))))), ?_⟩
  cases d with
  | str z =>
    have e : v = .str z := by simpa only [Dat] using hd
    subst e
    exact ⟨_, rfl, _, _, true, rfl, .str z, rfl, true, rfl, iteT ⟨_, rfl, aP, _, rfl, .inr (B3.sSIGNS_TO_PUT H), rfl, rfl, q⟩⟩
  | none => exact ⟨_, rfl, _, _, false, rfl, hd.ty, rfl, false, rfl, iteF q⟩
  | bool b => exact ⟨_, rfl, _, _, false, rfl, hd.ty, rfl, false, rfl, iteF q⟩
  | int b => exact ⟨_, rfl, _, _, false, rfl, hd.ty, rfl, false, rfl, iteF q⟩
  | list b => exact ⟨_, rfl, _, _, false, rfl, hd.ty, rfl, false, rfl, iteF q⟩
  | tuple b => exact ⟨_, rfl, _, _, false, rfl, hd.ty, rfl, false, rfl, iteF q⟩
  | dict b => exact ⟨_, rfl, _, _, false, rfl, hd.ty, rfl, false, rfl, iteF q⟩
end
end Put
set_option Elab.async false
set_option linter.all false
set_option maxRecDepth 100000
set_option maxHeartbeats 2000000
namespace Put
open PySem L2
def Wy.strs : Wy → Int → List (Int × Int)
  | .num _, _ => []
  | .node _ l r, f => (f, f + l.size + r.size - 1) :: l.strs f ++ r.strs (f + l.size)
theorem Wy.strs_len : ∀ (w : Wy) (f : Int), (w.strs f).length + 1 = w.size
  | .num _, _ => rfl
  | .node _ l r, f => by
    have a := l.strs_len f; have b := r.strs_len (f + l.size)
    show ((f, f + l.size + r.size - 1) :: l.strs f ++ r.strs (f + l.size)).length + 1 = l.size + r.size
    rw [List.length_append, List.length_cons]; omega
theorem Wy.strs_in : ∀ (w : Wy) (f : Int) (p : Int × Int), p ∈ w.strs f → f ≤ p.1 ∧ p.1 < p.2 ∧ p.2 < f + w.size
  | .num _, _, _, h => nomatch h
  | .node _ l r, f, p, h => by
    have zl := l.size_pos; have zr := r.size_pos
    have e : ((l.size + r.size : Nat) : Int) = l.size + r.size := by omega
    show f ≤ p.1 ∧ p.1 < p.2 ∧ p.2 < f + ((l.size + r.size : Nat) : Int)
    have h' : p ∈ (f, f + (l.size : Int) + r.size - 1) :: l.strs f ++ r.strs (f + l.size) := h
    rcases List.mem_append.mp h' with h1 | h1
    · rcases List.mem_cons.mp h1 with rfl | h1
      · refine ⟨Int.le_refl _, ?_, ?_⟩ <;> (dsimp only; omega)
      · have := l.strs_in f p h1; omega
    · have := r.strs_in _ p h1; omega
theorem Wy.strs_nodup : ∀ (w : Wy) (f : Int), (w.strs f).Nodup
  | .num _, _ => List.nodup_nil
  | .node _ l r, f => by
    have zl := l.size_pos; have zr := r.size_pos
    show ((f, f + (l.size : Int) + r.size - 1) :: l.strs f ++ r.strs (f + l.size)).Nodup
    refine List.nodup_append.mpr ⟨List.nodup_cons.mpr ⟨fun h => ?_, l.strs_nodup f⟩, r.strs_nodup _, fun p hp q hq e => ?_⟩
    · have := l.strs_in f _ h
      dsimp only at this; omega
    · subst e
      have b := r.strs_in _ p hq
      rcases List.mem_cons.mp hp with rfl | hp
      · dsimp only at b; omega
      · have := l.strs_in f p hp; omega
theorem Wy.strs_fine (w : Wy) (f : Int) (h0 : 0 ≤ f) (h1 : f + w.size < 1000) : Fine (w.strs f) :=
  ⟨fun p hp => by have := w.strs_in f p hp; omega, w.strs_nodup f⟩
theorem PairsIn.mono {H H' : Hp} (t : Tups H H') : ∀ {ps : List (Int × Int)} {vs : List V}, PairsIn H ps vs → PairsIn H' ps vs
  | _, _, .nil => .nil
  | _, _, .cons ⟨a, e, h⟩ b => .cons ⟨a, e, t _ _ h⟩ (PairsIn.mono t b)
theorem PairsIn.app {H : Hp} {ps qs : List (Int × Int)} {vs us : List V} (a : PairsIn H ps vs) (b : PairsIn H qs us) : PairsIn H (ps ++ qs) (vs ++ us) := by
  induction a with
  | nil => exact b
  | cons x _ ih => exact .cons x ih
theorem PairsIn.len {H : Hp} {ps : List (Int × Int)} {vs : List V} (a : PairsIn H ps vs) : ps.length = vs.length := Paired.length a
section
variable {P : Program} {w : World} {K : PySem.W.Frag} {mg : Str → Option Value} {base : Heap} {f : Addr} {fd : FuncData}
def spStr (n : Nat) : Sp := fun vs H Q _ => ∃ (w : Wy) (v : V) (fi : Int), vs = [v, .int fi] ∧ WyIn H w v ∧ w.size ≤ 20 ∧ w.deep ≤ n ∧ ∀ p us H', Same H H' → H p = none → H' p = some (.lst us) → PairsIn H' (w.strs fi) us → Q (.ref p) H'
abbrev s_list_stretches : Stmt := top 32
theorem sc_list_stretches : FnScope ["way", "first", "sign", "left", "right", "cut", "last"] ["way", "first"] (defScope s_list_stretches) := ⟨rfl, rfl, rfl, by decide +kernel, rfl, by decide +kernel, by decide +kernel⟩
theorem ok_list_stretches (F : Fun K "list_stretches" "list_stretches" s_list_stretches f fd) (bF : Binds K fd ["way", "first"] []) (mF : mg "list_stretches" = some (.ref f)) (B : Bu K mg) (C_is_whole : Cal P w K mg base "is_whole" 1 ["thing"] (spWhole K))
    (C_list_numbers : Cal P w K mg base "list_numbers" 21 ["way"] (spNums 20)) : ∀ n, FnOk P w K mg base CX0 (n + 22) f fd ["way", "first"] (spStr n) := by
  intro n
  induction n with
  | zero =>
    refine ⟨fun vs H Q E h => ?_, fun A outer s H args us vs Q E _ _ _ _ h => ?_⟩
    · obtain ⟨x, v, fi, rfl, _⟩ := h
      rfl
    · obtain ⟨wy, v, fi, _, _, _, hd, _⟩ := h
      cases wy <;> exact absurd hd (by simp [Wy.deep])
  | succ n ih =>
    have C_list_stretches : Cal P w K mg base "list_stretches" (n + 22) ["way", "first"] (spStr n) := ⟨f, fd, ih, bF, F.kp, mF⟩
    refine F.ok sc_list_stretches (fun vs H Q E h => ?_) (fun cdv A outer s H vs Q E hr h => ?_)
    · obtain ⟨x, v, fi, rfl, _⟩ := h
      rfl
    obtain ⟨wy, v, fi, rfl, hw, h20, hd, q⟩ := h
    refine ⟨_, (@pss_cons _ _ _ _ _ (@ps_if _ _ _ _ _ _ _ _ (@pt_val _ _ _ (@pe_cal _ _ _ _ _ _ _ _ _ _ _ C_is_whole hr (by omega) rfl (@pa_cons _ _ _ _ _ (@pv _ 0 _ _ (by rfl) (by first | exact Or.inl rfl | exact Or.inr ( Or.inl rfl ) | exact Or.inr ( Or.inr rfl )) (by decide) (by decide)) pa_nil (by rfl)) (by decide) (by rfl) (by rfl)) (by intro _; rfl)) (@pss_one _ _ _ (@ps_ret _ _ _ _ (@pe_lst _ _ _ _ pa_nil))) pss_nil) (@pss_cons _ _ _ _ _ (@ps_asg _ _ _ _ _ _ (@pv _ 0 _ _ (by rfl) (by first | exact Or.inl rfl | exact Or.inr ( Or.inl rfl ) | exact Or.inr ( Or.inr rfl )) (by decide) (by decide)) (@pg_tup _ _ _ _ _ _ rfl (@pgs_cons _ _ _ _ _ (@pg_name _ _ (2) _ (sc_list_stretches).nd rfl (Or.inl rfl) (by first | exact .inl rfl | exact .inr rfl | assumption)) (@pgs_cons _ _ _ _ _ (@pg_name _ _ (3) _ (sc_list_stretches).nd rfl (Or.inl rfl) (by first | exact .inl rfl | exact .inr rfl | assumption)) (@pgs_cons _ _ _ _ _ (@pg_name _ _ (4) _ (sc_list_stretches).nd rfl (Or.inl rfl) (by first | exact .inl rfl | exact .inr rfl | assumption)) pgs_nil (by rfl)) (by rfl)) (by rfl)) (by rfl) (by rfl)) (by rfl) (by rfl) (by rfl)) (@pss_cons _ _ _ _ _ (@ps_set _ _ (5) _ _ _ _ (sc_list_stretches).nd rfl (Or.inl rfl) (@pe_op _ _ _ _ _ _ _ _ op_add (@pv _ 1 _ _ (by rfl) (by first | exact Or.inl rfl | exact Or.inr ( Or.inl rfl ) | exact Or.inr ( Or.inr rfl )) (by decide) (by decide)) (@pe_callB _ _ _ _ _ _ _ _ _ call_len_seq rfl B.ilen PySem.boot_len (@pa_cons _ _ _ _ _ (@pe_cal _ _ _ _ _ _ _ _ _ _ _ C_list_numbers hr (by omega) rfl (@pa_cons _ _ _ _ _ (@pv _ 3 _ _ (by rfl) (by first | exact Or.inl rfl | exact Or.inr ( Or.inl rfl ) | exact Or.inr ( Or.inr rfl )) (by decide) (by decide)) pa_nil (by rfl)) (by decide) (by rfl) (by rfl)) pa_nil (by rfl)) (by decide) (by decide) (by rfl) (by rfl))) (by rfl) (by first | exact .inl rfl | exact .inr rfl | assumption)) (@pss_cons _ _ _ _ _ (@ps_set _ _ (6) _ _ _ _ (sc_list_stretches).nd rfl (Or.inl rfl) (@pe_op _ _ _ _ _ _ _ _ op_sub (@pe_op _ _ _ _ _ _ _ _ op_add (@pv _ 5 _ _ (by rfl) (by first | exact Or.inl rfl | exact Or.inr ( Or.inl rfl ) | exact Or.inr ( Or.inr rfl )) (by decide) (by decide)) (@pe_callB _ _ _ _ _ _ _ _ _ call_len_seq rfl B.ilen PySem.boot_len (@pa_cons _ _ _ _ _ (@pe_cal _ _ _ _ _ _ _ _ _ _ _ C_list_numbers hr (by omega) rfl (@pa_cons _ _ _ _ _ (@pv _ 4 _ _ (by rfl) (by first | exact Or.inl rfl | exact Or.inr ( Or.inl rfl ) | exact Or.inr ( Or.inr rfl )) (by decide) (by decide)) pa_nil (by rfl)) (by decide) (by rfl) (by rfl)) pa_nil (by rfl)) (by decide) (by decide) (by rfl) (by rfl))) pe_int) (by rfl) (by first | exact .inl rfl | exact .inr rfl | assumption)) (@pss_one _ _ _ (@ps_ret _ _ _ _ (@pe_op _ _ _ _ _ _ _ _ op_cat (@pe_op _ _ _ _ _ _ _ _ op_cat (@pe_lst _ _ _ _ (@pa_cons _ _ _ _ _ (@pe_tup _ _ _ _ _ (@pa_cons _ _ _ _ _ (@pv _ 1 _ _ (by rfl) (by first | exact Or.inl rfl | exact Or.inr ( Or.inl rfl ) | exact Or.inr ( Or.inr rfl )) (by decide) (by decide)) (@pa_cons _ _ _ _ _ (@pv _ 6 _ _ (by rfl) (by first | exact Or.inl rfl | exact Or.inr ( Or.inl rfl ) | exact Or.inr ( Or.inr rfl )) (by decide) (by decide)) pa_nil (by rfl)) (by rfl))) pa_nil (by rfl))) (@pe_cal _ _ _ _ _ _ _ _ _ _ _ C_list_stretches hr (by omega) rfl (@pa_cons _ _ _ _ _ (@pv _ 3 _ _ (by rfl) (by first | exact Or.inl rfl | exact Or.inr ( Or.inl rfl ) | exact Or.inr ( Or.inr rfl )) (by decide) (by decide)) (@pa_cons _ _ _ _ _ (@pv _ 1 _ _ (by rfl) (by first | exact Or.inl rfl | exact Or.inr ( Or.inl rfl ) | exact Or.inr ( Or.inr rfl )) (by decide) (by decide)) pa_nil (by rfl)) (by rfl)) (by decide) (by rfl) (by rfl))) (@pe_cal _ _ _ _ _ _ _ _ _ _ _ C_list_stretches hr (by omega) rfl (@pa_cons _ _ _ _ _ (@pv _ 4 _ _ (by rfl) (by first | exact Or.inl rfl | exact Or.inr ( Or.inl rfl ) | exact Or.inr ( Or.inr rfl )) (by decide) (by decide)) (@pa_cons _ _ _ _ _ (@pv _ 5 _ _ (by rfl) (by first | exact Or.inl rfl | exact Or.inr ( Or.inl rfl ) | exact Or.inr ( Or.inr rfl )) (by decide) (by decide)) pa_nil (by rfl)) (by rfl)) (by decide) (by rfl) (by rfl))))))))), ?_⟩
    cases wy with
    | num i =>
      cases hw
      refine ⟨_, rfl, _, "int", rfl, .int i, true, rfl, iteT ⟨(by show 0 ≤ sizeLine; decide), fun p hp => ?_⟩⟩
      exact q p _ _ (Same.new hp _) hp upd_same .nil
    | node g l r =>
      obtain ⟨a, vl, vr, rfl, ha, hl, hr'⟩ := hw
      refine ⟨_, rfl, _, "tuple", rfl, .tup ha, false, rfl, iteF ?_⟩
      have d : max l.deep r.deep + 1 ≤ n + 1 := hd
      have z : l.size + r.size ≤ 20 := h20
      have zl := l.size_pos; have zr := r.size_pos
      have dl := l.deep_le; have dr := r.deep_le
      refine ⟨_, rfl, a, _, rfl, SqT.of ha, rfl, _, _, rfl, _, _, rfl, _, _, rfl, rfl, ?_⟩
      refine ⟨_, rfl, _, rfl, l, vl, rfl, hl, by omega, by omega, fun p1 H1 g1 n1 e1 => ⟨p1, _, rfl, .inl (SqL.of e1), _, _, rfl, rfl, ?_⟩⟩
      refine ⟨_, rfl, _, rfl, r, vr, rfl, hr'.mono (Tups.of g1), by omega, by omega, fun p2 H2 g2 n2 e2 => ⟨p2, _, rfl, .inl (SqL.of e2), _, _, rfl, rfl, _, _, rfl, rfl, ?_⟩⟩
      rw [List.length_map, List.length_map, l.nums_len, r.nums_len]
      refine ⟨_, rfl, _, rfl, (by show 2 ≤ sizeLine; decide), fun p3 n3 => ⟨(by show 1 ≤ sizeLine; decide), fun p4 n4 => ?_⟩⟩
      have g3 := Same.new n3 (.tup [.int fi, .int (fi + (l.size : Int) + (r.size : Int) - 1)])
      have g4 := Same.new n4 (.lst [.ref p3])
      have G4 := ((g1.trans g2).trans g3).trans g4
      refine ⟨_, rfl, _, rfl, l, vl, fi, rfl, hl.mono (Tups.of G4), by omega, by omega, fun p5 us5 H5 g5 n5 e5 i5 => ?_⟩
      have l5 := PairsIn.len i5
      have sl := l.strs_len fi; have sr := r.strs_len (fi + l.size)
      refine ⟨p4, p5, _, _, rfl, rfl, g5 _ _ upd_same, e5, le_line (by show 1 + us5.length ≤ 1000; omega), fun p6 n6 => ?_⟩
      have g6 := Same.new n6 (.lst ([.ref p3] ++ us5))
      have G6 := (G4.trans g5).trans g6
      refine ⟨_, rfl, _, rfl, r, vr, fi + l.size, rfl, hr'.mono (Tups.of G6), by omega, by omega, fun p7 us7 H7 g7 n7 e7 i7 => ?_⟩
      have l7 := PairsIn.len i7
      refine ⟨p6, p7, _, _, rfl, rfl, g7 _ _ upd_same, e7, le_line (by rw [List.length_append, List.length_singleton]; omega), fun p8 n8 => ?_⟩
      have g8 := Same.new n8 (.lst ([.ref p3] ++ us5 ++ us7))
      have G8 := (G6.trans g7).trans g8
      refine q p8 _ _ G8 ((G6.trans g7).free n8) upd_same ?_
      have c3 : PairIn (upd H7 p8 (.lst ([.ref p3] ++ us5 ++ us7))) (fi, fi + (l.size : Int) + (r.size : Int) - 1) (.ref p3) := ⟨p3, rfl, g8 _ _ (g7 _ _ (g6 _ _ (g5 _ _ (g4 _ _ upd_same))))⟩
      exact PairsIn.app (.cons c3 (PairsIn.mono (Tups.of ((g6.trans g7).trans g8)) i5)) (PairsIn.mono (Tups.of g8) i7)
end
def Wy.os : Wy → Option Sg
  | .num _ => none
  | .node g _ _ => some g
def oStr : Option Sg → Str
  | none => ""
  | some g => g.str
def leftB : Sg → Option Sg → Bool
  | .times, some .plus => true
  | .times, some .minus => true
  | _, _ => false
def rightB : Sg → Option Sg → Bool
  | _, some .plus => true
  | _, some .minus => true
  | .times, some .times => true
  | _, _ => false
def b1 (b : Bool) : Int := if b then 1 else 0
def Wy.brk : Wy → Int
  | .num _ => 0
  | .node g l r => b1 (leftB g l.os) + b1 (rightB g r.os) + l.brk + r.brk
theorem in_pm (o : Option Sg) : inV (.str (oStr o)) [.str "+", .str "-"] = leftB .times o := by
  cases o with
  | none => decide +kernel
  | some g => cases g <;> decide +kernel
theorem is_times (g : Sg) : decide (V.str g.str = V.str "*") = decide (g = .times) := by cases g <;> decide +kernel
theorem is_timesO (o : Option Sg) : decide (V.str (oStr o) = V.str "*") = decide (o = some .times) := by
  cases o with
  | none => decide +kernel
  | some g => cases g <;> decide +kernel
section
variable {P : Program} {w : World} {K : PySem.W.Frag} {mg : Str → Option Value} {base : Heap} {f : Addr} {fd : FuncData}
def spLeft : Sp := fun vs H Q _ => ∃ g o, vs = [.str (Sg.str g), .str (oStr o)] ∧ ∀ H', Same H H' → Q (.bl (leftB g o)) H'
abbrev s_left_in_brackets : Stmt := top 37
theorem sc_left_in_brackets : FnScope ["sign", "left_sign"] ["sign", "left_sign"] (defScope s_left_in_brackets) := ⟨rfl, rfl, rfl, by decide +kernel, rfl, by decide +kernel, by decide +kernel⟩
theorem ok_left (F : Fun K "left_in_brackets" "left_in_brackets" s_left_in_brackets f fd) : FnOk P w K mg base CX0 1 f fd ["sign", "left_sign"] spLeft := by
  refine F.ok sc_left_in_brackets (fun vs H Q E h => ?_) (fun cdv A outer s H vs Q E hr h => ?_)
  · obtain ⟨g, o, rfl, _⟩ := h
    rfl
  obtain ⟨g, o, rfl, q⟩ := h
  refine ⟨_, (@pss_one _ _ _ (@ps_ret _ _ _ _ (@pe_and _ _ _ _ _ _ _ (@pe_cmpR _ _ _ _ _ _ _ _ op_eq (@pv _ 0 _ _ (by rfl) (by first | exact Or.inl rfl | exact Or.inr ( Or.inl rfl ) | exact Or.inr ( Or.inr rfl )) (by decide) (by decide)) pe_str (nomark _)) (@pe_one _ _ _ _ _ (@pe_cmpR _ _ _ _ _ _ _ _ op_in_seq (@pv _ 1 _ _ (by rfl) (by first | exact Or.inl rfl | exact Or.inr ( Or.inl rfl ) | exact Or.inr ( Or.inr rfl )) (by decide) (by decide)) (@pe_tup _ _ _ _ _ (@pa_cons _ _ _ _ _ pe_str (@pa_cons _ _ _ _ _ pe_str pa_nil (by rfl)) (by rfl))) (by with_unfolding_all rfl)))))), ?_⟩
  by_cases c : g = .times
  · subst c
    refine ⟨_, rfl, rfl, true, rfl, iteT ⟨_, rfl, (by show 2 ≤ sizeLine; decide), fun p n => ⟨p, _, rfl, .inr (SqT.of upd_same), rfl, rfl, ?_⟩⟩⟩
    have := q _ (Same.new n (.tup [.str "+", .str "-"]))
    rw [← in_pm] at this; exact this
  · refine ⟨_, rfl, rfl, false, ?_, iteF ?_⟩
    · rw [is_times, decide_eq_false c]
    · have := q H (Same.refl _)
      have e : leftB g o = false := by cases g <;> first | rfl | exact absurd rfl c
      rw [e] at this; exact this
def spRightB : Sp := fun vs H Q _ => ∃ g o, vs = [.str (Sg.str g), .str (oStr o)] ∧ ∀ H', Same H H' → Q (.bl (rightB g o)) H'
abbrev s_right_in_brackets : Stmt := top 38
theorem sc_right_in_brackets : FnScope ["sign", "right_sign"] ["sign", "right_sign"] (defScope s_right_in_brackets) := ⟨rfl, rfl, rfl, by decide +kernel, rfl, by decide +kernel, by decide +kernel⟩
theorem ok_rightB (F : Fun K "right_in_brackets" "right_in_brackets" s_right_in_brackets f fd) : FnOk P w K mg base CX0 1 f fd ["sign", "right_sign"] spRightB := by
  refine F.ok sc_right_in_brackets (fun vs H Q E h => ?_) (fun cdv A outer s H vs Q E hr h => ?_)
  · obtain ⟨g, o, rfl, _⟩ := h
    rfl
  obtain ⟨g, o, rfl, q⟩ := h
  refine ⟨_, (@pss_one _ _ _ (@ps_ret _ _ _ _ (@pe_or _ _ _ _ _ _ _ (@pe_cmpR _ _ _ _ _ _ _ _ op_in_seq (@pv _ 1 _ _ (by rfl) (by first | exact Or.inl rfl | exact Or.inr ( Or.inl rfl ) | exact Or.inr ( Or.inr rfl )) (by decide) (by decide)) (@pe_tup _ _ _ _ _ (@pa_cons _ _ _ _ _ pe_str (@pa_cons _ _ _ _ _ pe_str pa_nil (by rfl)) (by rfl))) (by with_unfolding_all rfl)) (@pe_one _ _ _ _ _ (@pe_and _ _ _ _ _ _ _ (@pe_cmpR _ _ _ _ _ _ _ _ op_eq (@pv _ 0 _ _ (by rfl) (by first | exact Or.inl rfl | exact Or.inr ( Or.inl rfl ) | exact Or.inr ( Or.inr rfl )) (by decide) (by decide)) pe_str (nomark _)) (@pe_one _ _ _ _ _ (@pe_cmpR _ _ _ _ _ _ _ _ op_eq (@pv _ 1 _ _ (by rfl) (by first | exact Or.inl rfl | exact Or.inr ( Or.inl rfl ) | exact Or.inr ( Or.inr rfl )) (by decide) (by decide)) pe_str (nomark _)))))))), ?_⟩
  refine ⟨_, rfl, (by show 2 ≤ sizeLine; decide), fun p n => ⟨p, _, rfl, .inr (SqT.of upd_same), rfl, rfl, ?_⟩⟩
  have q' := q _ (Same.new n (.tup [.str "+", .str "-"]))
  have e0 := in_pm o
  cases hb : leftB .times o with
  | true =>
    rw [hb] at e0
    refine ⟨true, congrArg V.bl e0, iteT ?_⟩
    have e : rightB g o = true := by
      cases o with
      | none => cases hb
      | some x => cases x <;> first | (cases g <;> rfl) | exact absurd hb (by decide)
    rw [e] at q'; exact q'
  | false =>
    rw [hb] at e0
    refine ⟨false, congrArg V.bl e0, iteF ?_⟩
    by_cases c : g = .times
    · subst c
      refine ⟨_, rfl, rfl, true, rfl, iteT ⟨_, rfl, rfl, ?_⟩⟩
      have e : rightB .times o = decide (o = some .times) := by
        cases o with
        | none => rfl
        | some x => cases x <;> first | rfl | exact absurd hb (by decide)
      rw [e, ← is_timesO] at q'; exact q'
    · refine ⟨_, rfl, rfl, false, ?_, iteF ?_⟩
      · rw [is_times, decide_eq_false c]
      · have e : rightB g o = false := by
          cases o with
          | none => cases g <;> rfl
          | some x => cases x <;> cases g <;> first | rfl | exact absurd rfl c | exact absurd hb (by decide)
        rw [e] at q'; exact q'
def spAround : Sp := fun vs H Q _ => ∃ g ol or', vs = [.str (Sg.str g), .str (oStr ol), .str (oStr or')] ∧ ∀ H', Same H H' → Q (.int (b1 (leftB g ol) + b1 (rightB g or'))) H'
abbrev s_brackets_around : Stmt := top 36
theorem sc_brackets_around : FnScope ["sign", "left_sign", "right_sign", "pairs"] ["sign", "left_sign", "right_sign"] (defScope s_brackets_around) := ⟨rfl, rfl, rfl, by decide +kernel, rfl, by decide +kernel, by decide +kernel⟩
theorem ok_around (F : Fun K "brackets_around" "brackets_around" s_brackets_around f fd) (C_left_in_brackets : Cal P w K mg base "left_in_brackets" 1 ["sign", "left_sign"] spLeft) (C_right_in_brackets : Cal P w K mg base "right_in_brackets" 1 ["sign", "right_sign"] spRightB) : FnOk P w K mg base CX0 2 f fd ["sign", "left_sign", "right_sign"] spAround := by
  refine F.ok sc_brackets_around (fun vs H Q E h => ?_) (fun cdv A outer s H vs Q E hr h => ?_)
  · obtain ⟨g, ol, or', rfl, _⟩ := h
    rfl
  obtain ⟨g, ol, or', rfl, q⟩ := h
  refine ⟨_, (@pss_cons _ _ _ _ _ (@ps_set _ _ (3) _ _ _ _ (sc_brackets_around).nd rfl (Or.inl rfl) pe_int (by rfl) (by first | exact .inl rfl | exact .inr rfl | assumption)) (@pss_cons _ _ _ _ _ (@ps_if _ _ _ _ _ _ _ _ (@pt_val _ _ _ (@pe_cal _ _ _ _ _ _ _ _ _ _ _ C_left_in_brackets hr (by omega) rfl (@pa_cons _ _ _ _ _ (@pv _ 0 _ _ (by rfl) (by first | exact Or.inl rfl | exact Or.inr ( Or.inl rfl ) | exact Or.inr ( Or.inr rfl )) (by decide) (by decide)) (@pa_cons _ _ _ _ _ (@pv _ 1 _ _ (by rfl) (by first | exact Or.inl rfl | exact Or.inr ( Or.inl rfl ) | exact Or.inr ( Or.inr rfl )) (by decide) (by decide)) pa_nil (by rfl)) (by rfl)) (by decide) (by rfl) (by rfl)) (by intro _; rfl)) (@pss_one _ _ _ (@ps_aug _ _ (3) _ _ _ _ _ _ (sc_brackets_around).nd rfl (Or.inl rfl) pe_int ip_add (by first | exact .inl rfl | exact .inr rfl | assumption))) pss_nil) (@pss_cons _ _ _ _ _ (@ps_if _ _ _ _ _ _ _ _ (@pt_val _ _ _ (@pe_cal _ _ _ _ _ _ _ _ _ _ _ C_right_in_brackets hr (by omega) rfl (@pa_cons _ _ _ _ _ (@pv _ 0 _ _ (by rfl) (by first | exact Or.inl rfl | exact Or.inr ( Or.inl rfl ) | exact Or.inr ( Or.inr rfl )) (by decide) (by decide)) (@pa_cons _ _ _ _ _ (@pv _ 2 _ _ (by rfl) (by first | exact Or.inl rfl | exact Or.inr ( Or.inl rfl ) | exact Or.inr ( Or.inr rfl )) (by decide) (by decide)) pa_nil (by rfl)) (by rfl)) (by decide) (by rfl) (by rfl)) (by intro _; rfl)) (@pss_one _ _ _ (@ps_aug _ _ (3) _ _ _ _ _ _ (sc_brackets_around).nd rfl (Or.inl rfl) pe_int ip_add (by first | exact .inl rfl | exact .inr rfl | assumption))) pss_nil) (@pss_one _ _ _ (@ps_ret _ _ _ _ (@pv _ 3 _ _ (by rfl) (by first | exact Or.inl rfl | exact Or.inr ( Or.inl rfl ) | exact Or.inr ( Or.inr rfl )) (by decide) (by decide))))))), ?_⟩
  refine ⟨_, rfl, _, rfl, g, ol, rfl, fun H1 g1 => ?_⟩
  cases hl : leftB g ol with
  | true =>
    refine ⟨true, rfl, iteT ⟨_, rfl, _, _, rfl, rfl, ?_⟩⟩
    refine ⟨_, rfl, _, rfl, g, or', rfl, fun H2 g2 => ?_⟩
    have q' := q H2 (g1.trans g2)
    rw [hl] at q'
    cases hr2 : rightB g or' with
    | true => rw [hr2] at q'; exact ⟨true, rfl, iteT ⟨_, rfl, _, _, rfl, rfl, ⟨_, rfl, q'⟩⟩⟩
    | false => rw [hr2] at q'; exact ⟨false, rfl, iteF ⟨_, rfl, q'⟩⟩
  | false =>
    refine ⟨false, rfl, iteF ?_⟩
    refine ⟨_, rfl, _, rfl, g, or', rfl, fun H2 g2 => ?_⟩
    have q' := q H2 (g1.trans g2)
    rw [hl] at q'
    cases hr2 : rightB g or' with
    | true => rw [hr2] at q'; exact ⟨true, rfl, iteT ⟨_, rfl, _, _, rfl, rfl, ⟨_, rfl, q'⟩⟩⟩
    | false => rw [hr2] at q'; exact ⟨false, rfl, iteF ⟨_, rfl, q'⟩⟩
def spOwn : Sp := fun vs H Q _ => ∃ w v, vs = [v] ∧ WyIn H w v ∧ Q (.str (oStr w.os)) H
abbrev s_own_sign : Stmt := top 35
theorem sc_own_sign : FnScope ["way"] ["way"] (defScope s_own_sign) := ⟨rfl, rfl, rfl, by decide +kernel, rfl, by decide +kernel, by decide +kernel⟩
theorem ok_own (F : Fun K "own_sign" "own_sign" s_own_sign f fd) (C_is_whole : Cal P w K mg base "is_whole" 1 ["thing"] (spWhole K)) : FnOk P w K mg base CX0 2 f fd ["way"] spOwn := by
  refine F.ok sc_own_sign (fun vs H Q E h => ?_) (fun cdv A outer s H vs Q E hr h => ?_)
  · obtain ⟨wy, v, rfl, _⟩ := h
    rfl
  obtain ⟨wy, v, rfl, hw, q⟩ := h
  refine ⟨_, (@pss_one _ _ _ (@ps_ret _ _ _ _ (@pe_ifExp _ _ _ _ _ _ _ _ (@pt_val _ _ _ (@pe_cal _ _ _ _ _ _ _ _ _ _ _ C_is_whole hr (by omega) rfl (@pa_cons _ _ _ _ _ (@pv _ 0 _ _ (by rfl) (by first | exact Or.inl rfl | exact Or.inr ( Or.inl rfl ) | exact Or.inr ( Or.inr rfl )) (by decide) (by decide)) pa_nil (by rfl)) (by decide) (by rfl) (by rfl)) (by intro _; rfl)) pe_str (@pe_ix _ _ _ _ _ _ _ ix_tup (@pv _ 0 _ _ (by rfl) (by first | exact Or.inl rfl | exact Or.inr ( Or.inl rfl ) | exact Or.inr ( Or.inr rfl )) (by decide) (by decide)) pe_int (fun _ _ => rfl))))), ?_⟩
  cases wy with
  | num i =>
    cases hw
    exact ⟨_, rfl, _, "int", rfl, .int i, true, rfl, iteT q⟩
  | node g l r =>
    obtain ⟨a, vl, vr, rfl, ha, hl, hr'⟩ := hw
    exact ⟨_, rfl, _, "tuple", rfl, .tup ha, false, rfl, iteF ⟨_, rfl, a, _, _, _, rfl, rfl, SqT.of ha, rfl, q⟩⟩
def spCount (n : Nat) : Sp := fun vs H Q _ => ∃ w v, vs = [v] ∧ WyIn H w v ∧ w.deep ≤ n ∧ ∀ H', Same H H' → Q (.int w.brk) H'
abbrev s_count_brackets : Stmt := top 34
theorem sc_count_brackets : FnScope ["way", "sign", "left", "right"] ["way"] (defScope s_count_brackets) := ⟨rfl, rfl, rfl, by decide +kernel, rfl, by decide +kernel, by decide +kernel⟩
theorem ok_count (F : Fun K "count_brackets" "count_brackets" s_count_brackets f fd) (bF : Binds K fd ["way"] []) (mF : mg "count_brackets" = some (.ref f)) (C_is_whole : Cal P w K mg base "is_whole" 1 ["thing"] (spWhole K)) (C_own_sign : Cal P w K mg base "own_sign" 2 ["way"] spOwn)
    (C_brackets_around : Cal P w K mg base "brackets_around" 2 ["sign", "left_sign", "right_sign"] spAround) : ∀ n, FnOk P w K mg base CX0 (n + 3) f fd ["way"] (spCount n) := by
  intro n
  induction n with
  | zero =>
    refine ⟨fun vs H Q E h => ?_, fun A outer s H args us vs Q E _ _ _ _ h => ?_⟩
    · obtain ⟨x, v, rfl, _⟩ := h
      rfl
    · obtain ⟨wy, v, _, _, hd, _⟩ := h
      cases wy <;> exact absurd hd (by simp [Wy.deep])
  | succ n ih =>
    have C_count_brackets : Cal P w K mg base "count_brackets" (n + 3) ["way"] (spCount n) := ⟨f, fd, ih, bF, F.kp, mF⟩
    refine F.ok sc_count_brackets (fun vs H Q E h => ?_) (fun cdv A outer s H vs Q E hr h => ?_)
    · obtain ⟨x, v, rfl, _⟩ := h
      rfl
    obtain ⟨wy, v, rfl, hw, hd, q⟩ := h
    refine ⟨_, (@pss_cons _ _ _ _ _ (@ps_if _ _ _ _ _ _ _ _ (@pt_val _ _ _ (@pe_cal _ _ _ _ _ _ _ _ _ _ _ C_is_whole hr (by omega) rfl (@pa_cons _ _ _ _ _ (@pv _ 0 _ _ (by rfl) (by first | exact Or.inl rfl | exact Or.inr ( Or.inl rfl ) | exact Or.inr ( Or.inr rfl )) (by decide) (by decide)) pa_nil (by rfl)) (by decide) (by rfl) (by rfl)) (by intro _; rfl)) (@pss_one _ _ _ (@ps_ret _ _ _ _ pe_int)) pss_nil) (@pss_cons _ _ _ _ _ (@ps_asg _ _ _ _ _ _ (@pv _ 0 _ _ (by rfl) (by first | exact Or.inl rfl | exact Or.inr ( Or.inl rfl ) | exact Or.inr ( Or.inr rfl )) (by decide) (by decide)) (@pg_tup _ _ _ _ _ _ rfl (@pgs_cons _ _ _ _ _ (@pg_name _ _ (1) _ (sc_count_brackets).nd rfl (Or.inl rfl) (by first | exact .inl rfl | exact .inr rfl | assumption)) (@pgs_cons _ _ _ _ _ (@pg_name _ _ (2) _ (sc_count_brackets).nd rfl (Or.inl rfl) (by first | exact .inl rfl | exact .inr rfl | assumption)) (@pgs_cons _ _ _ _ _ (@pg_name _ _ (3) _ (sc_count_brackets).nd rfl (Or.inl rfl) (by first | exact .inl rfl | exact .inr rfl | assumption)) pgs_nil (by rfl)) (by rfl)) (by rfl)) (by rfl) (by rfl)) (by rfl) (by rfl) (by rfl)) (@pss_one _ _ _ (@ps_ret _ _ _ _ (@pe_op _ _ _ _ _ _ _ _ op_add (@pe_op _ _ _ _ _ _ _ _ op_add (@pe_cal _ _ _ _ _ _ _ _ _ _ _ C_brackets_around hr (by omega) rfl (@pa_cons _ _ _ _ _ (@pv _ 1 _ _ (by rfl) (by first | exact Or.inl rfl | exact Or.inr ( Or.inl rfl ) | exact Or.inr ( Or.inr rfl )) (by decide) (by decide)) (@pa_cons _ _ _ _ _ (@pe_cal _ _ _ _ _ _ _ _ _ _ _ C_own_sign hr (by omega) rfl (@pa_cons _ _ _ _ _ (@pv _ 2 _ _ (by rfl) (by first | exact Or.inl rfl | exact Or.inr ( Or.inl rfl ) | exact Or.inr ( Or.inr rfl )) (by decide) (by decide)) pa_nil (by rfl)) (by decide) (by rfl) (by rfl)) (@pa_cons _ _ _ _ _ (@pe_cal _ _ _ _ _ _ _ _ _ _ _ C_own_sign hr (by omega) rfl (@pa_cons _ _ _ _ _ (@pv _ 3 _ _ (by rfl) (by first | exact Or.inl rfl | exact Or.inr ( Or.inl rfl ) | exact Or.inr ( Or.inr rfl )) (by decide) (by decide)) pa_nil (by rfl)) (by decide) (by rfl) (by rfl)) pa_nil (by rfl)) (by rfl)) (by rfl)) (by decide) (by rfl) (by rfl)) (@pe_cal _ _ _ _ _ _ _ _ _ _ _ C_count_brackets hr (by omega) rfl (@pa_cons _ _ _ _ _ (@pv _ 2 _ _ (by rfl) (by first | exact Or.inl rfl | exact Or.inr ( Or.inl rfl ) | exact Or.inr ( Or.inr rfl )) (by decide) (by decide)) pa_nil (by rfl)) (by decide) (by rfl) (by rfl))) (@pe_cal _ _ _ _ _ _ _ _ _ _ _ C_count_brackets hr (by omega) rfl (@pa_cons _ _ _ _ _ (@pv _ 3 _ _ (by rfl) (by first | exact Or.inl rfl | exact Or.inr ( Or.inl rfl ) | exact Or.inr ( Or.inr rfl )) (by decide) (by decide)) pa_nil (by rfl)) (by decide) (by rfl) (by rfl))))))), ?_⟩
    cases wy with
    | num i =>
      cases hw
      exact ⟨_, rfl, _, "int", rfl, .int i, true, rfl, iteT (q H (Same.refl _))⟩
    | node g l r =>
      obtain ⟨a, vl, vr, rfl, ha, hl, hr'⟩ := hw
      refine ⟨_, rfl, _, "tuple", rfl, .tup ha, false, rfl, iteF ?_⟩
      have d : max l.deep r.deep + 1 ≤ n + 1 := hd
      refine ⟨_, rfl, a, _, rfl, SqT.of ha, rfl, _, _, rfl, _, _, rfl, _, _, rfl, rfl, ?_⟩
      refine ⟨_, rfl, _, rfl, l, vl, rfl, hl, _, rfl, r, vr, rfl, hr', g, l.os, r.os, rfl, fun H1 g1 => ?_⟩
      refine ⟨_, rfl, l, vl, rfl, hl.mono (Tups.of g1), by omega, fun H2 g2 => ⟨_, _, rfl, rfl, ?_⟩⟩
      refine ⟨_, rfl, r, vr, rfl, hr'.mono (Tups.of (g1.trans g2)), by omega, fun H3 g3 => ⟨_, _, rfl, rfl, ?_⟩⟩
      exact q H3 ((g1.trans g2).trans g3)
end
end Put
set_option Elab.async false
set_option linter.all false
set_option maxRecDepth 100000
set_option maxHeartbeats 2000000
namespace Put
open PySem L2
section
variable {P : Program} {w : World} {K : PySem.W.Frag} {mg : Str → Option Value} {base : Heap} {f : Addr} {fd : FuncData}
structure Xc (K : PySem.W.Frag) (mg : Str → Option Value) (aP aR aS aW aN aF : Addr) : Prop where
  mPutError : mg "PutError" = some (.ref aP)
  mNoRow : mg "NoRow" = some (.ref aR)
  mNoSigns : mg "NoSigns" = some (.ref aS)
  mNoWay : mg "NoWay" = some (.ref aW)
  mNoNumber : mg "NoNumber" = some (.ref aN)
  mNoFit : mg "NoFit" = some (.ref aF)
  eNoRow : EC K aR
  eNoSigns : EC K aS
  eNoWay : EC K aW
  eNoNumber : EC K aN
  eNoFit : EC K aF
  uNoRow : Und K aR aP
  uNoSigns : Und K aS aP
  uNoWay : Und K aW aP
  uNoNumber : Und K aN aP
  uNoFit : Und K aF aP
def isManyD : PyData → Bool
  | .int i => decide (1 ≤ i) && decide (i ≤ 9)
  | _ => false
def spIsMany : Sp := fun vs H Q _ => ∃ d v, vs = [v] ∧ Dat H d v ∧ Q (.bl (isManyD d)) H
abbrev s_is_many : Stmt := top 20
theorem sc_is_many : FnScope ["thing"] ["thing"] (defScope s_is_many) := ⟨rfl, rfl, rfl, by decide +kernel, rfl, by decide +kernel, by decide +kernel⟩
theorem ok_is_many {tk : Tok} {aP : Addr} (F : Fun K "is_many" "is_many" s_is_many f fd) (B3 : Cp K mg tk aP) (C_is_whole : Cal P w K mg base "is_whole" 1 ["thing"] (spWhole K)) : FnOk P w K mg base CX0 2 f fd ["thing"] spIsMany := by
  refine F.ok sc_is_many (fun vs H Q E h => ?_) (fun cdv A outer s H vs Q E hr h => ?_)
  · obtain ⟨d, v, rfl, _⟩ := h
    rfl
  obtain ⟨d, v, rfl, hd, q⟩ := h
  refine ⟨_, (@pss_one _ _ _ (@ps_ret _ _ _ _ (@pe_and _ _ _ _ _ _ _ (@pe_cal _ _ _ _ _ _ _ _ _ _ _ C_is_whole hr (by omega) rfl (@pa_cons _ _ _ _ _ (@pv _ 0 _ _ (by rfl) (by first | exact Or.inl rfl | exact Or.inr ( Or.inl rfl ) | exact Or.inr ( Or.inr rfl )) (by decide) (by decide)) pa_nil (by rfl)) (by decide) (by rfl) (by rfl)) (@pe_one _ _ _ _ _ (@pe_chain _ _ _ _ _ _ _ _ _ _ _ _ op_le op_le pe_int (@pv _ 0 _ _ (by rfl) (by first | exact Or.inl rfl | exact Or.inr ( Or.inl rfl ) | exact Or.inr ( Or.inr rfl )) (by decide) (by decide)) (@pe_glob _ _ (.int 9) _ _ rfl B3.gMOST_NUMBERS ⟨_, rfl⟩ (by decide)) (by with_unfolding_all rfl)))))), ?_⟩
  refine ⟨_, rfl, v, _, rfl, hd.ty, ?_⟩
  cases d with
  | int i =>
    have e : v = .int i := by simpa only [Dat] using hd
    subst e
    refine ⟨true, rfl, iteT ?_⟩
    by_cases c : 1 ≤ i
    · refine ⟨_, rfl, _, _, rfl, rfl, true, congrArg V.bl (decide_eq_true c), iteT ⟨_, _, rfl, rfl, ?_⟩⟩
      have : isManyD (.int i) = decide (i ≤ 9) := by show (decide (1 ≤ i) && decide (i ≤ 9)) = _; rw [decide_eq_true c]; rfl
      rw [this] at q
      exact q
    · refine ⟨_, rfl, _, _, rfl, rfl, false, congrArg V.bl (decide_eq_false c), iteF ?_⟩
      have : isManyD (.int i) = false := by show (decide (1 ≤ i) && decide (i ≤ 9)) = _; rw [decide_eq_false c]; rfl
      rw [this] at q
      exact q
  | none => exact ⟨false, rfl, iteF q⟩
  | bool b => exact ⟨false, rfl, iteF q⟩
  | str b => exact ⟨false, rfl, iteF q⟩
  | list b => exact ⟨false, rfl, iteF q⟩
  | tuple b => exact ⟨false, rfl, iteF q⟩
  | dict b => exact ⟨false, rfl, iteF q⟩
def spNeedRow1 (aR : Addr) : Sp := fun vs H Q E => ∃ d v, vs = [v] ∧ Dat H d v ∧ (isRowD d = true → ∀ H', Same H H' → Q .non H') ∧ (isRowD d = false → ∀ H', Same H H' → E (.ref aR) none H')
abbrev s_need_row : Stmt := top 23
theorem sc_need_row : FnScope ["thing"] ["thing"] (defScope s_need_row) := ⟨rfl, rfl, rfl, by decide +kernel, rfl, by decide +kernel, by decide +kernel⟩
theorem ok_need_row1 {aP aR aS aW aN aF : Addr} (F : Fun K "need_row" "need_row" s_need_row f fd) (XC : Xc K mg aP aR aS aW aN aF) (C_is_row : Cal P w K mg base "is_row" 2 ["thing"] spIsRow) : FnOk P w K mg base (CX1 P w) 3 f fd ["thing"] (spNeedRow1 aR) := by
  refine Fun.ok1 F sc_need_row (fun vs H Q E h => ?_) (fun cdv A outer s H vs Q E hr h => ?_)
  · obtain ⟨d, v, rfl, _⟩ := h
    rfl
  obtain ⟨d, v, rfl, hd, q1, q2⟩ := h
  refine ⟨_, (@pss_one _ _ _ (@ps_if _ _ _ _ _ _ _ _ (@pt_not _ _ _ _ (@pt_val _ _ _ (@pe_cal _ _ _ _ _ _ _ _ _ _ _ C_is_row hr (by omega) rfl (@pa_cons _ _ _ _ _ (@pv _ 0 _ _ (by rfl) (by first | exact Or.inl rfl | exact Or.inr ( Or.inl rfl ) | exact Or.inr ( Or.inr rfl )) (by decide) (by decide)) pa_nil (by rfl)) (by decide) (by rfl) (by rfl)) (by intro _; rfl))) (@pss_one _ _ _ (@ps_raise _ _ _ _ _ _ _ _ _ _ rz1 XC.eNoRow rfl rfl XC.mNoRow (by rfl) (by decide))) pss_nil)), ?_⟩
  refine ⟨_, rfl, d, v, rfl, hd, fun H1 g1 => ?_⟩
  cases c : isRowD d with
  | true => exact ⟨true, rfl, iteF (q1 c H1 g1)⟩
  | false => exact ⟨false, rfl, iteT (q2 c H1 g1)⟩
def spNeedSigns1 (aS : Addr) : Sp := fun vs H Q E => ∃ d v, vs = [v] ∧ Dat H d v ∧ (isSgsD d = true → Q .non H) ∧ (isSgsD d = false → E (.ref aS) none H)
abbrev s_need_signs : Stmt := top 24
theorem sc_need_signs : FnScope ["thing"] ["thing"] (defScope s_need_signs) := ⟨rfl, rfl, rfl, by decide +kernel, rfl, by decide +kernel, by decide +kernel⟩
theorem ok_need_signs1 {aP aR aS aW aN aF : Addr} (F : Fun K "need_signs" "need_signs" s_need_signs f fd) (XC : Xc K mg aP aR aS aW aN aF) (C_is_signs : Cal P w K mg base "is_signs" 1 ["thing"] spIsSigns) : FnOk P w K mg base (CX1 P w) 2 f fd ["thing"] (spNeedSigns1 aS) := by
  refine Fun.ok1 F sc_need_signs (fun vs H Q E h => ?_) (fun cdv A outer s H vs Q E hr h => ?_)
  · obtain ⟨d, v, rfl, _⟩ := h
    rfl
  obtain ⟨d, v, rfl, hd, q1, q2⟩ := h
  refine ⟨_, (@pss_one _ _ _ (@ps_if _ _ _ _ _ _ _ _ (@pt_not _ _ _ _ (@pt_val _ _ _ (@pe_cal _ _ _ _ _ _ _ _ _ _ _ C_is_signs hr (by omega) rfl (@pa_cons _ _ _ _ _ (@pv _ 0 _ _ (by rfl) (by first | exact Or.inl rfl | exact Or.inr ( Or.inl rfl ) | exact Or.inr ( Or.inr rfl )) (by decide) (by decide)) pa_nil (by rfl)) (by decide) (by rfl) (by rfl)) (by intro _; rfl))) (@pss_one _ _ _ (@ps_raise _ _ _ _ _ _ _ _ _ _ rz1 XC.eNoSigns rfl rfl XC.mNoSigns (by rfl) (by decide))) pss_nil)), ?_⟩
  refine ⟨_, rfl, d, v, rfl, hd, ?_⟩
  cases c : isSgsD d with
  | true => exact ⟨true, rfl, iteF (q1 c)⟩
  | false => exact ⟨false, rfl, iteT (q2 c)⟩
def spNeedMany1 (aN : Addr) : Sp := fun vs H Q E => ∃ d v, vs = [v] ∧ Dat H d v ∧ (isManyD d = true → Q .non H) ∧ (isManyD d = false → E (.ref aN) none H)
abbrev s_need_many : Stmt := top 26
theorem sc_need_many : FnScope ["thing"] ["thing"] (defScope s_need_many) := ⟨rfl, rfl, rfl, by decide +kernel, rfl, by decide +kernel, by decide +kernel⟩
theorem ok_need_many1 {aP aR aS aW aN aF : Addr} (F : Fun K "need_many" "need_many" s_need_many f fd) (XC : Xc K mg aP aR aS aW aN aF) (C_is_many : Cal P w K mg base "is_many" 2 ["thing"] spIsMany) : FnOk P w K mg base (CX1 P w) 3 f fd ["thing"] (spNeedMany1 aN) := by
  refine Fun.ok1 F sc_need_many (fun vs H Q E h => ?_) (fun cdv A outer s H vs Q E hr h => ?_)
  · obtain ⟨d, v, rfl, _⟩ := h
    rfl
  obtain ⟨d, v, rfl, hd, q1, q2⟩ := h
  refine ⟨_, (@pss_one _ _ _ (@ps_if _ _ _ _ _ _ _ _ (@pt_not _ _ _ _ (@pt_val _ _ _ (@pe_cal _ _ _ _ _ _ _ _ _ _ _ C_is_many hr (by omega) rfl (@pa_cons _ _ _ _ _ (@pv _ 0 _ _ (by rfl) (by first | exact Or.inl rfl | exact Or.inr ( Or.inl rfl ) | exact Or.inr ( Or.inr rfl )) (by decide) (by decide)) pa_nil (by rfl)) (by decide) (by rfl) (by rfl)) (by intro _; rfl))) (@pss_one _ _ _ (@ps_raise _ _ _ _ _ _ _ _ _ _ rz1 XC.eNoNumber rfl rfl XC.mNoNumber (by rfl) (by decide))) pss_nil)), ?_⟩
  refine ⟨_, rfl, d, v, rfl, hd, ?_⟩
  cases c : isManyD d with
  | true => exact ⟨true, rfl, iteF (q1 c)⟩
  | false => exact ⟨false, rfl, iteT (q2 c)⟩
def spNeedWay1 (aW : Addr) : Sp := fun vs H Q E => ∃ d v, vs = [v] ∧ Dat H d v ∧ (isWayD d = true → ∀ H', Same H H' → Q .non H') ∧ (isWayD d = false → ∀ H', Same H H' → E (.ref aW) none H')
abbrev s_need_way : Stmt := top 25
theorem sc_need_way : FnScope ["thing"] ["thing"] (defScope s_need_way) := ⟨rfl, rfl, rfl, by decide +kernel, rfl, by decide +kernel, by decide +kernel⟩
theorem ok_need_way1 {aP aR aS aW aN aF : Addr} (F : Fun K "need_way" "need_way" s_need_way f fd) (XC : Xc K mg aP aR aS aW aN aF) (C_is_way : Cal P w K mg base "is_way" 2 ["thing"] spIsWayD) : FnOk P w K mg base (CX1 P w) 3 f fd ["thing"] (spNeedWay1 aW) := by
  refine Fun.ok1 F sc_need_way (fun vs H Q E h => ?_) (fun cdv A outer s H vs Q E hr h => ?_)
  · obtain ⟨d, v, rfl, _⟩ := h
    rfl
  obtain ⟨d, v, rfl, hd, q1, q2⟩ := h
  refine ⟨_, (@pss_one _ _ _ (@ps_if _ _ _ _ _ _ _ _ (@pt_not _ _ _ _ (@pt_val _ _ _ (@pe_cal _ _ _ _ _ _ _ _ _ _ _ C_is_way hr (by omega) rfl (@pa_cons _ _ _ _ _ (@pv _ 0 _ _ (by rfl) (by first | exact Or.inl rfl | exact Or.inr ( Or.inl rfl ) | exact Or.inr ( Or.inr rfl )) (by decide) (by decide)) pa_nil (by rfl)) (by decide) (by rfl) (by rfl)) (by intro _; rfl))) (@pss_one _ _ _ (@ps_raise _ _ _ _ _ _ _ _ _ _ rz1 XC.eNoWay rfl rfl XC.mNoWay (by rfl) (by decide))) pss_nil)), ?_⟩
  refine ⟨_, rfl, d, v, rfl, hd, fun H1 g1 => ?_⟩
  cases c : isWayD d with
  | true => exact ⟨true, rfl, iteF (q1 c H1 g1)⟩
  | false => exact ⟨false, rfl, iteT (q2 c H1 g1)⟩
def spWayAny (aW : Addr) : Sp := fun vs H Q E => ∃ d v, vs = [v] ∧ Dat H d v ∧ (isWayD d = true → ∃ wy, WyIn H wy v ∧ wy.size ≤ 9 ∧ ∀ y H', Same H H' → Q y H') ∧ (isWayD d = false → ∀ H', Same H H' → E (.ref aW) none H')
abbrev s_numbers_of : Stmt := top 27
theorem sc_numbers_of : FnScope ["way"] ["way"] (defScope s_numbers_of) := ⟨rfl, rfl, rfl, by decide +kernel, rfl, by decide +kernel, by decide +kernel⟩
theorem ok_numbers_of1 {aW : Addr} (F : Fun K "numbers_of" "numbers_of" s_numbers_of f fd) (C_need_way : Cal1 P w K mg base "need_way" 3 ["thing"] (spNeedWay1 aW)) (C_list_numbers : Cal P w K mg base "list_numbers" 21 ["way"] (spNums 20)) : FnOk P w K mg base (CX1 P w) 22 f fd ["way"] (spWayAny aW) := by
  refine Fun.ok1 F sc_numbers_of (fun vs H Q E h => ?_) (fun cdv A outer s H vs Q E hr h => ?_)
  · obtain ⟨d, v, rfl, _⟩ := h
    rfl
  obtain ⟨d, v, rfl, hd, q1, q2⟩ := h
  refine ⟨_, (@pss_cons _ _ _ _ _ (@ps_expr _ _ _ _ (@pe_cal1 _ _ _ _ _ _ _ _ _ _ _ _ C_need_way pass1 hr (by omega) rfl (@pa_cons _ _ _ _ _ (@pv _ 0 _ _ (by rfl) (by first | exact Or.inl rfl | exact Or.inr ( Or.inl rfl ) | exact Or.inr ( Or.inr rfl )) (by decide) (by decide)) pa_nil (by rfl)) (by decide) (by rfl) (by rfl)) (by rfl)) (@pss_one _ _ _ (@ps_ret _ _ _ _ (@pe_cal _ _ _ _ _ _ _ _ _ _ _ C_list_numbers hr (by omega) rfl (@pa_cons _ _ _ _ _ (@pv _ 0 _ _ (by rfl) (by first | exact Or.inl rfl | exact Or.inr ( Or.inl rfl ) | exact Or.inr ( Or.inr rfl )) (by decide) (by decide)) pa_nil (by rfl)) (by decide) (by rfl) (by rfl))))), ?_⟩
  refine ⟨_, rfl, d, v, rfl, hd, fun c H1 g1 => ?_, fun c H1 g1 => q2 c H1 g1⟩
  obtain ⟨wy, hw, h9, q⟩ := q1 c
  have dl := wy.deep_le
  exact ⟨_, rfl, wy, v, rfl, hw.mono (Tups.of g1), by omega, by omega, fun p H2 g2 _ _ => q _ H2 (g1.trans g2)⟩
abbrev s_signs_of : Stmt := top 29
theorem sc_signs_of : FnScope ["way"] ["way"] (defScope s_signs_of) := ⟨rfl, rfl, rfl, by decide +kernel, rfl, by decide +kernel, by decide +kernel⟩
theorem ok_signs_of1 {aW : Addr} (F : Fun K "signs_of" "signs_of" s_signs_of f fd) (C_need_way : Cal1 P w K mg base "need_way" 3 ["thing"] (spNeedWay1 aW)) (C_join_signs : Cal P w K mg base "join_signs" 21 ["way"] (spSgs 20)) : FnOk P w K mg base (CX1 P w) 22 f fd ["way"] (spWayAny aW) := by
  refine Fun.ok1 F sc_signs_of (fun vs H Q E h => ?_) (fun cdv A outer s H vs Q E hr h => ?_)
  · obtain ⟨d, v, rfl, _⟩ := h
    rfl
  obtain ⟨d, v, rfl, hd, q1, q2⟩ := h
  refine ⟨_, (@pss_cons _ _ _ _ _ (@ps_expr _ _ _ _ (@pe_cal1 _ _ _ _ _ _ _ _ _ _ _ _ C_need_way pass1 hr (by omega) rfl (@pa_cons _ _ _ _ _ (@pv _ 0 _ _ (by rfl) (by first | exact Or.inl rfl | exact Or.inr ( Or.inl rfl ) | exact Or.inr ( Or.inr rfl )) (by decide) (by decide)) pa_nil (by rfl)) (by decide) (by rfl) (by rfl)) (by rfl)) (@pss_one _ _ _ (@ps_ret _ _ _ _ (@pe_cal _ _ _ _ _ _ _ _ _ _ _ C_join_signs hr (by omega) rfl (@pa_cons _ _ _ _ _ (@pv _ 0 _ _ (by rfl) (by first | exact Or.inl rfl | exact Or.inr ( Or.inl rfl ) | exact Or.inr ( Or.inr rfl )) (by decide) (by decide)) pa_nil (by rfl)) (by decide) (by rfl) (by rfl))))), ?_⟩
  refine ⟨_, rfl, d, v, rfl, hd, fun c H1 g1 => ?_, fun c H1 g1 => q2 c H1 g1⟩
  obtain ⟨wy, hw, h9, q⟩ := q1 c
  have dl := wy.deep_le
  exact ⟨_, rfl, wy, v, rfl, hw.mono (Tups.of g1), by omega, by omega, fun H2 g2 => q _ H2 (g1.trans g2)⟩
abbrev s_brackets_in : Stmt := top 33
theorem sc_brackets_in : FnScope ["way"] ["way"] (defScope s_brackets_in) := ⟨rfl, rfl, rfl, by decide +kernel, rfl, by decide +kernel, by decide +kernel⟩
theorem ok_brackets_in1 {aW : Addr} (F : Fun K "brackets_in" "brackets_in" s_brackets_in f fd) (C_need_way : Cal1 P w K mg base "need_way" 3 ["thing"] (spNeedWay1 aW)) (C_count_brackets : Cal P w K mg base "count_brackets" 23 ["way"] (spCount 20)) : FnOk P w K mg base (CX1 P w) 24 f fd ["way"] (spWayAny aW) := by
  refine Fun.ok1 F sc_brackets_in (fun vs H Q E h => ?_) (fun cdv A outer s H vs Q E hr h => ?_)
  · obtain ⟨d, v, rfl, _⟩ := h
    rfl
  obtain ⟨d, v, rfl, hd, q1, q2⟩ := h
  refine ⟨_, (@pss_cons _ _ _ _ _ (@ps_expr _ _ _ _ (@pe_cal1 _ _ _ _ _ _ _ _ _ _ _ _ C_need_way pass1 hr (by omega) rfl (@pa_cons _ _ _ _ _ (@pv _ 0 _ _ (by rfl) (by first | exact Or.inl rfl | exact Or.inr ( Or.inl rfl ) | exact Or.inr ( Or.inr rfl )) (by decide) (by decide)) pa_nil (by rfl)) (by decide) (by rfl) (by rfl)) (by rfl)) (@pss_one _ _ _ (@ps_ret _ _ _ _ (@pe_cal _ _ _ _ _ _ _ _ _ _ _ C_count_brackets hr (by omega) rfl (@pa_cons _ _ _ _ _ (@pv _ 0 _ _ (by rfl) (by first | exact Or.inl rfl | exact Or.inr ( Or.inl rfl ) | exact Or.inr ( Or.inr rfl )) (by decide) (by decide)) pa_nil (by rfl)) (by decide) (by rfl) (by rfl))))), ?_⟩
  refine ⟨_, rfl, d, v, rfl, hd, fun c H1 g1 => ?_, fun c H1 g1 => q2 c H1 g1⟩
  obtain ⟨wy, hw, h9, q⟩ := q1 c
  have dl := wy.deep_le
  exact ⟨_, rfl, wy, v, rfl, hw.mono (Tups.of g1), by omega, fun H2 g2 => q _ H2 (g1.trans g2)⟩
abbrev s_stretches_of : Stmt := top 31
theorem sc_stretches_of : FnScope ["way"] ["way"] (defScope s_stretches_of) := ⟨rfl, rfl, rfl, by decide +kernel, rfl, by decide +kernel, by decide +kernel⟩
theorem ok_stretches_of1 {aW : Addr} (F : Fun K "stretches_of" "stretches_of" s_stretches_of f fd) (B : Bu K mg) (C_need_way : Cal1 P w K mg base "need_way" 3 ["thing"] (spNeedWay1 aW)) (C_list_stretches : Cal P w K mg base "list_stretches" 42 ["way", "first"] (spStr 20)) : FnOk P w K mg base (CX1 P w) 43 f fd ["way"] (spWayAny aW) := by
  refine Fun.ok1 F sc_stretches_of (fun vs H Q E h => ?_) (fun cdv A outer s H vs Q E hr h => ?_)
  · obtain ⟨d, v, rfl, _⟩ := h
    rfl
  obtain ⟨d, v, rfl, hd, q1, q2⟩ := h
  refine ⟨_, (@pss_cons _ _ _ _ _ (@ps_expr _ _ _ _ (@pe_cal1 _ _ _ _ _ _ _ _ _ _ _ _ C_need_way pass1 hr (by omega) rfl (@pa_cons _ _ _ _ _ (@pv _ 0 _ _ (by rfl) (by first | exact Or.inl rfl | exact Or.inr ( Or.inl rfl ) | exact Or.inr ( Or.inr rfl )) (by decide) (by decide)) pa_nil (by rfl)) (by decide) (by rfl) (by rfl)) (by rfl)) (@pss_one _ _ _ (@ps_ret _ _ _ _ (@pe_callB _ _ _ _ _ _ _ _ _ (@call_sortedP _ rfl) rfl B.isorted PyProof.Rows.boot_sorted (@pa_cons _ _ _ _ _ (@pe_cal _ _ _ _ _ _ _ _ _ _ _ C_list_stretches hr (by omega) rfl (@pa_cons _ _ _ _ _ (@pv _ 0 _ _ (by rfl) (by first | exact Or.inl rfl | exact Or.inr ( Or.inl rfl ) | exact Or.inr ( Or.inr rfl )) (by decide) (by decide)) (@pa_cons _ _ _ _ _ pe_int pa_nil (by rfl)) (by rfl)) (by decide) (by rfl) (by rfl)) pa_nil (by rfl)) (by decide) (by decide) (by rfl) (by rfl))))), ?_⟩
  refine ⟨_, rfl, d, v, rfl, hd, fun c H1 g1 => ?_, fun c H1 g1 => q2 c H1 g1⟩
  obtain ⟨wy, hw, h9, q⟩ := q1 c
  have dl := wy.deep_le
  refine ⟨_, rfl, wy, v, 0, rfl, hw.mono (Tups.of g1), by omega, by omega, fun p us H2 g2 n2 e2 hp => ?_⟩
  have sl := wy.strs_len 0
  refine ⟨p, us, wy.strs 0, rfl, e2, hp, by omega, wy.strs_fine 0 (Int.le_refl _) (by omega), fun p3 qs us3 n3 pm pw i3 => ?_⟩
  exact q _ _ ((g1.trans g2).trans (Same.new n3 _))
end
end Put
set_option Elab.async false
set_option linter.all false
set_option maxRecDepth 100000
set_option maxHeartbeats 2000000
namespace Put
open PySem L2
def wl (s : Nat) (L : List Int) (n l : Nat) : Int := (s : Int) * L.getD l 0 * L.getD (n - l) 0
def cl (s : Nat) : Nat → List Int
  | 0 => [0, 1]
  | k + 1 => cl s k ++ [((List.range (k + 1)).map fun j => wl s (cl s k) (k + 2) (1 + j)).sum]
theorem cl_len (s : Nat) : ∀ k, (cl s k).length = k + 2
  | 0 => rfl
  | k + 1 => by
    show (cl s k ++ [_]).length = _
    rw [List.length_append, cl_len s k]; rfl
def cn (s n : Nat) : Int := (cl s 8).getD n 0
theorem cl_pre (s : Nat) : ∀ (k d n : Nat), n < k + 2 → (cl s (k + d)).getD n 0 = (cl s k).getD n 0
  | k, 0, n, h => rfl
  | k, d + 1, n, h => by
    show (cl s (k + d) ++ [_]).getD n 0 = _
    rw [← cl_pre s k d n h]
    have hl := cl_len s (k + d)
    simp only [List.getD_eq_getElem?_getD]
    rw [List.getElem?_append_left (by omega)]
theorem cl_cn {s k n : Nat} (hk : k ≤ 8) (h : n < k + 2) : (cl s k).getD n 0 = cn s n := by
  have := cl_pre s k (8 - k) n h
  unfold cn
  rw [show 8 = k + (8 - k) by omega]
  exact this.symm
theorem cn_bd : ∀ s ≤ 3, ∀ n ≤ 9, 0 ≤ cn s n ∧ cn s n < 1000000000 := by decide +kernel
theorem cn_sum : ∀ s ≤ 3, ∀ n ≤ 9, 2 ≤ n → cn s n = ((List.range (n - 1)).map fun j => (s : Int) * cn s (1 + j) * cn s (n - (1 + j))).sum := by decide +kernel
theorem cl_at {s k n : Nat} (hk : k ≤ 8) (h : n < k + 2) : atI ((cl s k).map V.int) (n : Int) = some (.int (cn s n)) := by
  have hl := cl_len s k
  have e : (cl s k)[n]? = some (cn s n) := by
    have := cl_cn (s := s) hk h
    rw [List.getD_eq_getElem?_getD] at this
    cases z : (cl s k)[n]? with
    | none => rw [List.getElem?_eq_none_iff] at z; omega
    | some x => rw [z] at this; exact congrArg some this
  refine atI_nat ?_
  rw [List.getElem?_map, e]; rfl
section
variable {P : Program} {w : World} {K : PySem.W.Frag} {mg : Str → Option Value} {base : Heap} {f : Addr} {fd : FuncData}
def spWbc : Sp := fun vs H Q _ => ∃ (z : Str) (pc : Addr) (xs : List V) (l r a b : Int), vs = [.str z, .ref pc, .int l, .int r] ∧ z.length ≤ 3 ∧ H pc = some (.lst xs) ∧ atI xs l = some (.int a) ∧ atI xs r = some (.int b) ∧ 0 ≤ b ∧ b < 1000000000 ∧ Q (.int ((z.length : Int) * a * b)) H
abbrev s_ways_by_cut : Stmt := top 45
theorem sc_ways_by_cut : FnScope ["signs", "counts", "left", "right"] ["signs", "counts", "left", "right"] (defScope s_ways_by_cut) := ⟨rfl, rfl, rfl, by decide +kernel, rfl, by decide +kernel, by decide +kernel⟩
theorem ok_ways_by_cut (F : Fun K "ways_by_cut" "ways_by_cut" s_ways_by_cut f fd) (B : Bu K mg) : FnOk P w K mg base CX0 1 f fd ["signs", "counts", "left", "right"] spWbc := by
  refine F.ok sc_ways_by_cut (fun vs H Q E h => ?_) (fun cdv A outer s H vs Q E hr h => ?_)
  · obtain ⟨z, pc, xs, l, r, a, b, rfl, _⟩ := h
    rfl
  obtain ⟨z, pc, xs, l, r, a, b, rfl, hz, hc, ha, hb, b0, b1, q⟩ := h
  refine ⟨_, (@pss_one _ _ _ (@ps_ret _ _ _ _ (@pe_op _ _ _ _ _ _ _ _ op_mul (@pe_op _ _ _ _ _ _ _ _ op_mul (@pe_callB _ _ _ _ _ _ _ _ _ call_len_str rfl B.ilen PySem.boot_len (@pa_cons _ _ _ _ _ (@pv _ 0 _ _ (by rfl) (by first | exact Or.inl rfl | exact Or.inr ( Or.inl rfl ) | exact Or.inr ( Or.inr rfl )) (by decide) (by decide)) pa_nil (by rfl)) (by decide) (by decide) (by rfl) (by rfl)) (@pe_ix _ _ _ _ _ _ _ ix_list (@pv _ 1 _ _ (by rfl) (by first | exact Or.inl rfl | exact Or.inr ( Or.inl rfl ) | exact Or.inr ( Or.inr rfl )) (by decide) (by decide)) (@pv _ 2 _ _ (by rfl) (by first | exact Or.inl rfl | exact Or.inr ( Or.inl rfl ) | exact Or.inr ( Or.inr rfl )) (by decide) (by decide)) (fun _ _ => rfl))) (@pe_ix _ _ _ _ _ _ _ ix_list (@pv _ 1 _ _ (by rfl) (by first | exact Or.inl rfl | exact Or.inr ( Or.inl rfl ) | exact Or.inr ( Or.inr rfl )) (by decide) (by decide)) (@pv _ 3 _ _ (by rfl) (by first | exact Or.inl rfl | exact Or.inr ( Or.inl rfl ) | exact Or.inr ( Or.inr rfl )) (by decide) (by decide)) (fun _ _ => rfl))))), ?_⟩
  exact ⟨_, rfl, z, rfl, le_line (by omega), _, rfl, _, rfl, pc, _, _, _, rfl, rfl, SqL.of hc, ha, _, _, rfl, rfl, .inl ⟨by omega, by omega⟩, _, rfl, _, rfl, pc, _, _, _, rfl, rfl, SqL.of hc, hb, _, _, rfl, rfl, .inr ⟨by omega, by omega⟩, q⟩
def spCts : Sp := fun vs H Q _ => ∃ (z : Str) (m : Int), vs = [.str z, .int m] ∧ z.length ≤ 3 ∧ 1 ≤ m ∧ m ≤ 9 ∧ ∀ p H', Same H H' → H p = none → H' p = some (.lst ((cl z.length (m - 1).toNat).map V.int)) → Q (.ref p) H'
abbrev s_counts_up_to : Stmt := top 44
theorem sc_counts_up_to : FnScope ["signs", "many", "counts", "length", "by_left"] ["signs", "many"] (defScope s_counts_up_to) := ⟨rfl, rfl, rfl, by decide +kernel, rfl, by decide +kernel, by decide +kernel⟩
theorem ok_counts_up_to (F : Fun K "counts_up_to" "counts_up_to" s_counts_up_to f fd) (B : Bu K mg) (C_ways_by_cut : Cal P w K mg base "ways_by_cut" 1 ["signs", "counts", "left", "right"] spWbc) : FnOk P w K mg base CX0 2 f fd ["signs", "many"] spCts := by
  refine F.ok sc_counts_up_to (fun vs H Q E h => ?_) (fun cdv A outer s H vs Q E hr h => ?_)
  · obtain ⟨z, m, rfl, _⟩ := h
    rfl
  obtain ⟨z, m, rfl, hz, h1, h9, q⟩ := h
  refine ⟨_, (@pss_cons _ _ _ _ _ (@ps_set _ _ (2) _ _ _ _ (sc_counts_up_to).nd rfl (Or.inr rfl) (@pe_lst _ _ _ _ (@pa_cons _ _ _ _ _ pe_int (@pa_cons _ _ _ _ _ pe_int pa_nil (by rfl)) (by rfl))) (by rfl) (by first | exact .inl rfl | exact .inr rfl | assumption)) (@pss_cons _ _ _ _ _ (@ps_for _ _ _ _ _ _ _ _ PassesOwn.never rfl (@pi_range2 _ _ _ _ _ _ _ rfl B.irange (@pa_cons _ _ _ _ _ pe_int (@pa_cons _ _ _ _ _ (@pe_op _ _ _ _ _ _ _ _ op_add (@pv _ 1 _ _ (by rfl) (by first | exact Or.inl rfl | exact Or.inr ( Or.inl rfl ) | exact Or.inr ( Or.inr rfl )) (by decide) (by decide)) pe_int) pa_nil (by rfl)) (by rfl)) (by rfl) (by rfl)) (@pg_name _ _ (3) _ (sc_counts_up_to).nd rfl (Or.inr rfl) (by first | exact .inl rfl | exact .inr rfl | assumption)) (@pss_cons _ _ _ _ _ (@ps_setC _ (4) _ _ _ _ _ _ _ _ _ _ (["left", "signs", "counts", "length"]) ([none, some 0, some 2, some 3]) _ _ _ _ (sc_counts_up_to).nd rfl (Or.inl rfl) rfl (@pi_range2 _ _ _ _ _ _ _ rfl B.irange (@pa_cons _ _ _ _ _ pe_int (@pa_cons _ _ _ _ _ (@pv _ 3 _ _ (by rfl) (by first | exact Or.inl rfl | exact Or.inr ( Or.inl rfl ) | exact Or.inr ( Or.inr rfl )) (by decide) (by decide)) pa_nil (by rfl)) (by rfl)) (by rfl) (by rfl)) rfl ⟨rfl, ⟨rfl, ⟨rfl, trivial⟩⟩⟩ ⟨⟨rfl, Or.inl rfl, Or.inl rfl⟩, ⟨⟨rfl, Or.inl rfl, Or.inl rfl⟩, ⟨⟨rfl, Or.inl rfl, Or.inl rfl⟩, trivial⟩⟩⟩ (fun _ _ _ _ => ⟨(@pg_name _ _ (0) _ (show List.Nodup (["left", "signs", "counts", "length"] : List Str) by decide +kernel) rfl (Or.inl rfl) (by first | exact .inl rfl | exact .inr rfl | assumption)), pifs_nil, (@pe_cal _ _ _ _ _ _ _ _ _ _ _ C_ways_by_cut hr (by omega) rfl (@pa_cons _ _ _ _ _ (@pv _ 1 _ _ (by rfl) (by first | exact Or.inl rfl | exact Or.inr ( Or.inl rfl ) | exact Or.inr ( Or.inr rfl )) (by decide) (by decide)) (@pa_cons _ _ _ _ _ (@pv _ 2 _ _ (by rfl) (by first | exact Or.inl rfl | exact Or.inr ( Or.inl rfl ) | exact Or.inr ( Or.inr rfl )) (by decide) (by decide)) (@pa_cons _ _ _ _ _ (@pv _ 0 _ _ (by rfl) (by first | exact Or.inl rfl | exact Or.inr ( Or.inl rfl ) | exact Or.inr ( Or.inr rfl )) (by decide) (by decide)) (@pa_cons _ _ _ _ _ (@pe_op _ _ _ _ _ _ _ _ op_sub (@pv _ 3 _ _ (by rfl) (by first | exact Or.inl rfl | exact Or.inr ( Or.inl rfl ) | exact Or.inr ( Or.inr rfl )) (by decide) (by decide)) (@pv _ 0 _ _ (by rfl) (by first | exact Or.inl rfl | exact Or.inr ( Or.inl rfl ) | exact Or.inr ( Or.inr rfl )) (by decide) (by decide))) pa_nil (by rfl)) (by rfl)) (by rfl)) (by rfl)) (by decide) (by rfl) (by rfl))⟩) (by rfl) (by rfl) (by rfl) (by rfl) (by intro _; rfl) (by rfl) (by first | exact .inl rfl | exact .inr rfl | assumption)) (@pss_one _ _ _ (@ps_expr _ _ _ _ (@pe_bm _ _ _ _ _ _ _ _ _ _ _ _ PySem.F.plainAttrs_list PySem.F.slot_list_append PySem.F.type_list_append mt_append (@pv _ 2 _ _ (by rfl) (by first | exact Or.inl rfl | exact Or.inr ( Or.inl rfl ) | exact Or.inr ( Or.inr rfl )) (by decide) (by decide)) (@pa_cons _ _ _ _ _ (@pe_callB _ _ _ _ _ _ _ _ _ (@call_sum _ rfl) rfl B.isum PyProof.Rows.boot_sum (@pa_cons _ _ _ _ _ (@pv _ 4 _ _ (by rfl) (by first | exact Or.inl rfl | exact Or.inr ( Or.inl rfl ) | exact Or.inr ( Or.inr rfl )) (by decide) (by decide)) pa_nil (by rfl)) (by decide) (by decide) (by rfl) (by rfl)) pa_nil (by rfl)) (by rfl) (by rfl) (by rfl) (by rfl) (by rfl)) (by rfl)))) (by intro _; rfl)) (@pss_one _ _ _ (@ps_ret _ _ _ _ (@pv _ 2 _ _ (by rfl) (by first | exact Or.inl rfl | exact Or.inr ( Or.inl rfl ) | exact Or.inr ( Or.inr rfl )) (by decide) (by decide)))))), ?_⟩
  refine ⟨(by show 2 ≤ sizeLine; decide), fun p np => ?_⟩
  refine ⟨_, rfl, _, _, rfl, rfl, 2, m + 1, rfl, ⟨by decide, by decide, by omega, by omega⟩, for_range (n := (m + 1 - 2).toNat) (fun i σ H' => ∃ len by', σ = [some (.str z), some (.int m), some (.ref p), len, by'] ∧ H' p = some (.lst ((cl z.length i).map V.int)) ∧ Same H H') ⟨_, _, rfl, upd_same, Same.new np _⟩ ?_ ?_⟩
  · rintro i σ H1 hi ⟨len, by', rfl, e1, S1⟩
    have i8 : i ≤ 7 := by omega
    have hl := cl_len z.length i
    refine ⟨_, rfl, 1, _, rfl, ⟨by decide, by decide, by omega, by omega⟩, lc_range (n := (2 + (i : Int) - 1).toNat) (fun j ys H' => ys = ((List.range j).map fun j => wl z.length (cl z.length i) (i + 2) (1 + j)).map V.int ∧ H' = H1) ⟨rfl, rfl⟩ ?_ ?_ ?_⟩
    · rintro j ys H' hj ⟨rfl, rfl⟩
      rw [List.length_map, List.length_map, List.length_range]
      exact small1000 (by omega)
    · rintro j ys H' hj ⟨rfl, rfl⟩ nx
      have bd := cn_bd z.length hz
      have e2 : 2 + (i : Int) - (1 + (j : Int)) = ((i + 2 - (1 + j) : Nat) : Int) := by omega
      have e3 : (1 + (j : Int)) = ((1 + j : Nat) : Int) := by omega
      refine ⟨_, rfl, _, rfl, _, rfl, _, rfl, _, rfl, _, _, rfl, rfl, z, p, _, _, _, cn z.length (1 + j), cn z.length (i + 2 - (1 + j)), rfl, hz, e1, ?_, ?_, (bd _ (by omega)).1, (bd _ (by omega)).2, nx ⟨?_, rfl⟩⟩
      · rw [e3]; exact cl_at (by omega) (by omega)
      · rw [e2]; exact cl_at (by omega) (by omega)
      · rw [List.range_succ, List.map_append, List.map_append]
        show _ = _ ++ [V.int (wl z.length (cl z.length i) (i + 2) (1 + j))]
        unfold wl
        rw [cl_cn (by omega) (by omega), cl_cn (by omega) (by omega)]
    · rintro ys H' ⟨rfl, rfl⟩ p2 n2
      have g2 := Same.new n2 (.lst (((List.range (2 + (i : Int) - 1).toNat).map fun j => wl z.length (cl z.length i) (i + 2) (1 + j)).map V.int))
      refine ⟨_, rfl, .inl ⟨rfl, _, SqL.of (g2 _ _ e1)⟩, _, rfl, p2, _, rfl, SqL.of upd_same, p, _, _, rfl, rfl, g2 _ _ e1, small1000 (by rw [List.length_map]; omega), _, _, rfl, ?_, ?_⟩
      · rw [upd_same, ← List.map_singleton, ← List.map_append]
        have e4 : (2 + (i : Int) - 1).toNat = i + 1 := by omega
        rw [e4]; rfl
      · exact (S1.trans g2).upd np
  · rintro σ H1 ⟨len, by', rfl, e1, S1⟩
    have e4 : (m + 1 - 2).toNat = (m - 1).toNat := by omega
    rw [e4] at e1
    exact ⟨_, rfl, q p H1 S1 np e1⟩
end
end Put
set_option Elab.async false
set_option linter.all false
set_option maxRecDepth 100000
set_option maxHeartbeats 2000000
namespace Put
open PySem L2
def sgl : PyData → Nat
  | .str z => z.length
  | _ => 0
theorem seven_of {z : Str} (h : isSgsD (.str z) = true) : z = "+" ∨ z = "-" ∨ z = "*" ∨ z = "+-" ∨ z = "+*" ∨ z = "-*" ∨ z = "+-*" := by
  have h' : inV (.str z) sevenV = true := h
  by_cases c1 : z = "+"
  · exact .inl c1
  by_cases c2 : z = "-"
  · exact .inr (.inl c2)
  by_cases c3 : z = "*"
  · exact .inr (.inr (.inl c3))
  by_cases c4 : z = "+-"
  · exact .inr (.inr (.inr (.inl c4)))
  by_cases c5 : z = "+*"
  · exact .inr (.inr (.inr (.inr (.inl c5))))
  by_cases c6 : z = "-*"
  · exact .inr (.inr (.inr (.inr (.inr (.inl c6)))))
  by_cases c7 : z = "+-*"
  · exact .inr (.inr (.inr (.inr (.inr (.inr c7)))))
  exfalso
  revert h'
  simp [inV, eqV, sevenV, Ne.symm c1, Ne.symm c2, Ne.symm c3, Ne.symm c4, Ne.symm c5, Ne.symm c6, Ne.symm c7]
theorem seven_len {z : Str} (h : isSgsD (.str z) = true) : 1 ≤ z.length ∧ z.length ≤ 3 := by
  rcases seven_of h with rfl | rfl | rfl | rfl | rfl | rfl | rfl <;> decide +kernel
theorem sgs_str {e : PyData} (h : isSgsD e = true) : ∃ z, e = .str z := by cases e <;> first | exact ⟨_, rfl⟩ | exact absurd h (by simp [isSgsD])
def hasS (z : Str) (y : Str) : Bool := !(Builtin.Str.occurrences z y 0 z.length 1).isEmpty
def okN (n : Int) : PyData → Bool
  | .int i => decide (0 ≤ i) && decide (i < n)
  | _ => false
def rlen : PyData → Nat
  | .list ds => ds.length
  | _ => 0
theorem dat_ints {H : Hp} : ∀ {ds : List PyData} {xs : List V}, DatAll H ds xs → ds.all isIntD = true → ∃ ns : List Int, xs = ns.map V.int
  | [], xs, h, _ => by simp only [DatAll] at h; subst h; exact ⟨[], rfl⟩
  | d :: ds, xs, h, a => by
    simp only [DatAll] at h
    obtain ⟨v, r, rfl, h1, h2⟩ := h
    simp only [List.all_cons, Bool.and_eq_true] at a
    obtain ⟨ns, rfl⟩ := dat_ints h2 a.2
    cases d with
    | int i =>
      have e : v = .int i := by simpa only [Dat] using h1
      subst e
      exact ⟨i :: ns, rfl⟩
    | _ => exact absurd a.1 (by simp [isIntD])
theorem row_in {d : PyData} {H : Hp} {v : V} (h : isRowD d = true) (hd : Dat H d v) : ∃ (a : Addr) (ns : List Int), v = .ref a ∧ H a = some (.lst (ns.map V.int)) ∧ 1 ≤ ns.length ∧ ns.length ≤ 9 ∧ ns.length = rlen d := by
  cases d with
  | list ds =>
    have h' : (decide (1 ≤ ds.length) && decide (ds.length ≤ 9) && ds.all isIntD) = true := h
    simp only [Bool.and_eq_true, decide_eq_true_eq] at h'
    simp only [Dat] at hd
    obtain ⟨a, xs, rfl, ha, hx⟩ := hd
    obtain ⟨ns, rfl⟩ := dat_ints hx h'.2
    have := hx.len
    rw [List.length_map] at this
    exact ⟨a, ns, rfl, ha, by omega, by omega, this.symm⟩
  | _ => exact absurd h (by simp [isRowD])
def rst (s m j : Nat) : Int := (((List.range (m - 1)).drop j).map fun i => (s : Int) * cn s (1 + i) * cn s (m - (1 + i))).sum
theorem rst_zero {s m : Nat} (hs : s ≤ 3) (h2 : 2 ≤ m) (h9 : m ≤ 9) : rst s m 0 = cn s m := (cn_sum s hs m h9 h2).symm
theorem rst_step {s m j : Nat} (h : j < m - 1) : rst s m j = (s : Int) * cn s (1 + j) * cn s (m - (1 + j)) + rst s m (j + 1) := by
  unfold rst
  rw [List.drop_eq_getElem_cons (by rw [List.length_range]; exact h), List.map_cons, List.sum_cons, List.getElem_range]
theorem rst_end {s m j : Nat} (h : m - 1 ≤ j) : rst s m j = 0 := by
  unfold rst
  rw [List.drop_eq_nil_of_le (by rw [List.length_range]; exact h)]; rfl
section
variable {P : Program} {w : World} {K : PySem.W.Frag} {mg : Str → Option Value} {base : Heap} {f : Addr} {fd : FuncData}
def spHow1 (aS aN : Addr) : Sp := fun vs H Q E => ∃ e u b x, vs = [u, x] ∧ Dat H e u ∧ Dat H b x ∧ (isSgsD e = false → E (.ref aS) none H) ∧ (isSgsD e = true → (isManyD b = false → E (.ref aN) none H) ∧ (isManyD b = true → ∀ m, b = .int m → ∀ H', Same H H' → Q (.int (cn (sgl e) m.toNat)) H'))
abbrev s_how_many_ways : Stmt := top 40
theorem sc_how_many_ways : FnScope ["signs", "many"] ["signs", "many"] (defScope s_how_many_ways) := ⟨rfl, rfl, rfl, by decide +kernel, rfl, by decide +kernel, by decide +kernel⟩
theorem ok_how_many_ways1 {aS aN : Addr} (F : Fun K "how_many_ways" "how_many_ways" s_how_many_ways f fd) (C_need_signs : Cal1 P w K mg base "need_signs" 2 ["thing"] (spNeedSigns1 aS)) (C_need_many : Cal1 P w K mg base "need_many" 3 ["thing"] (spNeedMany1 aN)) (C_counts_up_to : Cal P w K mg base "counts_up_to" 2 ["signs", "many"] spCts) : FnOk P w K mg base (CX1 P w) 4 f fd ["signs", "many"] (spHow1 aS aN) := by
  refine Fun.ok1 F sc_how_many_ways (fun vs H Q E h => ?_) (fun cdv A outer s H vs Q E hr h => ?_)
  · obtain ⟨e, u, b, x, rfl, _⟩ := h
    rfl
  obtain ⟨e, u, b, x, rfl, he, hb, q1, q2⟩ := h
  refine ⟨_, (@pss_cons _ _ _ _ _ (@ps_expr _ _ _ _ (@pe_cal1 _ _ _ _ _ _ _ _ _ _ _ _ C_need_signs pass1 hr (by omega) rfl (@pa_cons _ _ _ _ _ (@pv _ 0 _ _ (by rfl) (by first | exact Or.inl rfl | exact Or.inr ( Or.inl rfl ) | exact Or.inr ( Or.inr rfl )) (by decide) (by decide)) pa_nil (by rfl)) (by decide) (by rfl) (by rfl)) (by rfl)) (@pss_cons _ _ _ _ _ (@ps_expr _ _ _ _ (@pe_cal1 _ _ _ _ _ _ _ _ _ _ _ _ C_need_many pass1 hr (by omega) rfl (@pa_cons _ _ _ _ _ (@pv _ 1 _ _ (by rfl) (by first | exact Or.inl rfl | exact Or.inr ( Or.inl rfl ) | exact Or.inr ( Or.inr rfl )) (by decide) (by decide)) pa_nil (by rfl)) (by decide) (by rfl) (by rfl)) (by rfl)) (@pss_one _ _ _ (@ps_ret _ _ _ _ (@pe_ix _ _ _ _ _ _ _ ix_list (@pe_cal _ _ _ _ _ _ _ _ _ _ _ C_counts_up_to hr (by omega) rfl (@pa_cons _ _ _ _ _ (@pv _ 0 _ _ (by rfl) (by first | exact Or.inl rfl | exact Or.inr ( Or.inl rfl ) | exact Or.inr ( Or.inr rfl )) (by decide) (by decide)) (@pa_cons _ _ _ _ _ (@pv _ 1 _ _ (by rfl) (by first | exact Or.inl rfl | exact Or.inr ( Or.inl rfl ) | exact Or.inr ( Or.inr rfl )) (by decide) (by decide)) pa_nil (by rfl)) (by rfl)) (by decide) (by rfl) (by rfl)) (@pv _ 1 _ _ (by rfl) (by first | exact Or.inl rfl | exact Or.inr ( Or.inl rfl ) | exact Or.inr ( Or.inr rfl )) (by decide) (by decide)) (fun _ _ => rfl)))))), ?_⟩
  refine ⟨_, rfl, e, u, rfl, he, fun c => ?_, q1⟩
  obtain ⟨q3, q4⟩ := q2 c
  refine ⟨_, rfl, b, x, rfl, hb, fun c2 => ?_, q3⟩
  obtain ⟨z, rfl⟩ := sgs_str c
  obtain ⟨m, rfl⟩ : ∃ m, b = .int m := by cases b <;> first | exact ⟨_, rfl⟩ | exact absurd c2 (by simp [isManyD])
  have eu : u = .str z := by simpa only [Dat] using he
  have ex : x = .int m := by simpa only [Dat] using hb
  subst eu ex
  have hm : (decide (1 ≤ m) && decide (m ≤ 9)) = true := c2
  simp only [Bool.and_eq_true, decide_eq_true_eq] at hm
  obtain ⟨l1, l3⟩ := seven_len c
  refine ⟨_, rfl, _, rfl, z, m, rfl, l3, hm.1, hm.2, fun p H1 g1 n1 e1 => ?_⟩
  refine ⟨_, rfl, p, _, _, _, rfl, rfl, SqL.of e1, ?_, q4 c2 m rfl H1 g1⟩
  have em : m = ((m.toNat : Nat) : Int) := by omega
  rw [em]
  exact cl_at (by omega) (by omega)
def spWat (n : Nat) : Sp := fun vs H Q _ => ∃ (z : Str) (pr pc : Addr) (ns : List Int) (k : Nat) (nb : Int), vs = [.ref pr, .str z, .ref pc, .int nb] ∧ z.length ≤ 3 ∧ H pr = some (.lst (ns.map V.int)) ∧ H pc = some (.lst ((cl z.length k).map V.int)) ∧ k ≤ 8 ∧ ns.length ≤ k + 1 ∧ 1 ≤ ns.length ∧ ns.length ≤ n ∧ 0 ≤ nb ∧ nb < cn z.length ns.length ∧ ∀ v H', Same H H' → Q v H'
abbrev s_way_at : Stmt := top 46
theorem sc_way_at : FnScope ["row", "signs", "counts", "number", "many", "left", "both", "right_number", "place", "left_number", "left_way", "right_way"] ["row", "signs", "counts", "number"] (defScope s_way_at) := ⟨rfl, rfl, rfl, by decide +kernel, rfl, by decide +kernel, by decide +kernel⟩
theorem ok_way_at (F : Fun K "way_at" "way_at" s_way_at f fd) (bF : Binds K fd ["row", "signs", "counts", "number"] []) (mF : mg "way_at" = some (.ref f)) (B : Bu K mg) (C_ways_by_cut : Cal P w K mg base "ways_by_cut" 1 ["signs", "counts", "left", "right"] spWbc) : ∀ n, FnOk P w K mg base CX0 (n + 2) f fd ["row", "signs", "counts", "number"] (spWat n) := by
  intro n
  induction n with
  | zero =>
    refine ⟨fun vs H Q E h => ?_, fun A outer s H args us vs Q E _ _ _ _ h => ?_⟩
    · obtain ⟨z, pr, pc, ns, k, nb, rfl, _⟩ := h
      rfl
    · obtain ⟨z, pr, pc, ns, k, nb, _, _, _, _, _, _, h1, h2, _⟩ := h
      omega
  | succ n ih =>
    have C_way_at : Cal P w K mg base "way_at" (n + 2) ["row", "signs", "counts", "number"] (spWat n) := ⟨f, fd, ih, bF, F.kp, mF⟩
    refine F.ok sc_way_at (fun vs H Q E h => ?_) (fun cdv A outer s H vs Q E hr h => ?_)
    · obtain ⟨z, pr, pc, ns, k, nb, rfl, _⟩ := h
      rfl
    obtain ⟨z, pr, pc, ns, k, nb, rfl, hz, hr', hc, hk, hnk, h1, hn, nb0, nb1, q⟩ := h
    refine ⟨_, (@pss_cons _ _ _ _ _ (@ps_set _ _ (4) _ _ _ _ (sc_way_at).nd rfl (Or.inl rfl) (@pe_callB _ _ _ _ _ _ _ _ _ call_len_seq rfl B.ilen PySem.boot_len (@pa_cons _ _ _ _ _ (@pv _ 0 _ _ (by rfl) (by first | exact Or.inl rfl | exact Or.inr ( Or.inl rfl ) | exact Or.inr ( Or.inr rfl )) (by decide) (by decide)) pa_nil (by rfl)) (by decide) (by decide) (by rfl) (by rfl)) (by rfl) (by first | exact .inl rfl | exact .inr rfl | assumption)) (@pss_cons _ _ _ _ _ (@ps_if _ _ _ _ _ _ _ _ (@pt_cmpR _ _ _ _ _ _ _ _ op_eq (@pv _ 4 _ _ (by rfl) (by first | exact Or.inl rfl | exact Or.inr ( Or.inl rfl ) | exact Or.inr ( Or.inr rfl )) (by decide) (by decide)) pe_int (nomark _)) (@pss_one _ _ _ (@ps_ret _ _ _ _ (@pe_ix _ _ _ _ _ _ _ ix_list (@pv _ 0 _ _ (by rfl) (by first | exact Or.inl rfl | exact Or.inr ( Or.inl rfl ) | exact Or.inr ( Or.inr rfl )) (by decide) (by decide)) pe_int (fun _ _ => rfl)))) pss_nil) (@pss_cons _ _ _ _ _ (@ps_set _ _ (5) _ _ _ _ (sc_way_at).nd rfl (Or.inl rfl) pe_int (by rfl) (by first | exact .inl rfl | exact .inr rfl | assumption)) (@pss_cons _ _ _ _ _ (@ps_while _ _ _ _ _ _ PassesOwn.never (@pt_cmpR _ _ _ _ _ _ _ _ op_ge (@pv _ 3 _ _ (by rfl) (by first | exact Or.inl rfl | exact Or.inr ( Or.inl rfl ) | exact Or.inr ( Or.inr rfl )) (by decide) (by decide)) (@pe_cal _ _ _ _ _ _ _ _ _ _ _ C_ways_by_cut hr (by omega) rfl (@pa_cons _ _ _ _ _ (@pv _ 1 _ _ (by rfl) (by first | exact Or.inl rfl | exact Or.inr ( Or.inl rfl ) | exact Or.inr ( Or.inr rfl )) (by decide) (by decide)) (@pa_cons _ _ _ _ _ (@pv _ 2 _ _ (by rfl) (by first | exact Or.inl rfl | exact Or.inr ( Or.inl rfl ) | exact Or.inr ( Or.inr rfl )) (by decide) (by decide)) (@pa_cons _ _ _ _ _ (@pv _ 5 _ _ (by rfl) (by first | exact Or.inl rfl | exact Or.inr ( Or.inl rfl ) | exact Or.inr ( Or.inr rfl )) (by decide) (by decide)) (@pa_cons _ _ _ _ _ (@pe_op _ _ _ _ _ _ _ _ op_sub (@pv _ 4 _ _ (by rfl) (by first | exact Or.inl rfl | exact Or.inr ( Or.inl rfl ) | exact Or.inr ( Or.inr rfl )) (by decide) (by decide)) (@pv _ 5 _ _ (by rfl) (by first | exact Or.inl rfl | exact Or.inr ( Or.inl rfl ) | exact Or.inr ( Or.inr rfl )) (by decide) (by decide))) pa_nil (by rfl)) (by rfl)) (by rfl)) (by rfl)) (by decide) (by rfl) (by rfl)) (nomark _)) (@pss_cons _ _ _ _ _ (@ps_aug _ _ (3) _ _ _ _ _ _ (sc_way_at).nd rfl (Or.inl rfl) (@pe_cal _ _ _ _ _ _ _ _ _ _ _ C_ways_by_cut hr (by omega) rfl (@pa_cons _ _ _ _ _ (@pv _ 1 _ _ (by rfl) (by first | exact Or.inl rfl | exact Or.inr ( Or.inl rfl ) | exact Or.inr ( Or.inr rfl )) (by decide) (by decide)) (@pa_cons _ _ _ _ _ (@pv _ 2 _ _ (by rfl) (by first | exact Or.inl rfl | exact Or.inr ( Or.inl rfl ) | exact Or.inr ( Or.inr rfl )) (by decide) (by decide)) (@pa_cons _ _ _ _ _ (@pv _ 5 _ _ (by rfl) (by first | exact Or.inl rfl | exact Or.inr ( Or.inl rfl ) | exact Or.inr ( Or.inr rfl )) (by decide) (by decide)) (@pa_cons _ _ _ _ _ (@pe_op _ _ _ _ _ _ _ _ op_sub (@pv _ 4 _ _ (by rfl) (by first | exact Or.inl rfl | exact Or.inr ( Or.inl rfl ) | exact Or.inr ( Or.inr rfl )) (by decide) (by decide)) (@pv _ 5 _ _ (by rfl) (by first | exact Or.inl rfl | exact Or.inr ( Or.inl rfl ) | exact Or.inr ( Or.inr rfl )) (by decide) (by decide))) pa_nil (by rfl)) (by rfl)) (by rfl)) (by rfl)) (by decide) (by rfl) (by rfl)) ip_sub (by first | exact .inl rfl | exact .inr rfl | assumption)) (@pss_one _ _ _ (@ps_aug _ _ (5) _ _ _ _ _ _ (sc_way_at).nd rfl (Or.inl rfl) pe_int ip_add (by first | exact .inl rfl | exact .inr rfl | assumption))))) (@pss_cons _ _ _ _ _ (@ps_asg _ _ _ _ _ _ (@pe_callB _ _ _ _ _ _ _ _ _ call_divmod rfl B.idivmod PyProof.Rows.boot_divmod (@pa_cons _ _ _ _ _ (@pv _ 3 _ _ (by rfl) (by first | exact Or.inl rfl | exact Or.inr ( Or.inl rfl ) | exact Or.inr ( Or.inr rfl )) (by decide) (by decide)) (@pa_cons _ _ _ _ _ (@pe_ix _ _ _ _ _ _ _ ix_list (@pv _ 2 _ _ (by rfl) (by first | exact Or.inl rfl | exact Or.inr ( Or.inl rfl ) | exact Or.inr ( Or.inr rfl )) (by decide) (by decide)) (@pe_op _ _ _ _ _ _ _ _ op_sub (@pv _ 4 _ _ (by rfl) (by first | exact Or.inl rfl | exact Or.inr ( Or.inl rfl ) | exact Or.inr ( Or.inr rfl )) (by decide) (by decide)) (@pv _ 5 _ _ (by rfl) (by first | exact Or.inl rfl | exact Or.inr ( Or.inl rfl ) | exact Or.inr ( Or.inr rfl )) (by decide) (by decide))) (fun _ _ => rfl)) pa_nil (by rfl)) (by rfl)) (by decide) (by decide) (by rfl) (by rfl)) (@pg_tup _ _ _ _ _ _ rfl (@pgs_cons _ _ _ _ _ (@pg_name _ _ (6) _ (sc_way_at).nd rfl (Or.inl rfl) (by first | exact .inl rfl | exact .inr rfl | assumption)) (@pgs_cons _ _ _ _ _ (@pg_name _ _ (7) _ (sc_way_at).nd rfl (Or.inl rfl) (by first | exact .inl rfl | exact .inr rfl | assumption)) pgs_nil (by rfl)) (by rfl)) (by rfl) (by rfl)) (by rfl) (by rfl) (by rfl)) (@pss_cons _ _ _ _ _ (@ps_asg _ _ _ _ _ _ (@pe_callB _ _ _ _ _ _ _ _ _ call_divmod rfl B.idivmod PyProof.Rows.boot_divmod (@pa_cons _ _ _ _ _ (@pv _ 6 _ _ (by rfl) (by first | exact Or.inl rfl | exact Or.inr ( Or.inl rfl ) | exact Or.inr ( Or.inr rfl )) (by decide) (by decide)) (@pa_cons _ _ _ _ _ (@pe_ix _ _ _ _ _ _ _ ix_list (@pv _ 2 _ _ (by rfl) (by first | exact Or.inl rfl | exact Or.inr ( Or.inl rfl ) | exact Or.inr ( Or.inr rfl )) (by decide) (by decide)) (@pv _ 5 _ _ (by rfl) (by first | exact Or.inl rfl | exact Or.inr ( Or.inl rfl ) | exact Or.inr ( Or.inr rfl )) (by decide) (by decide)) (fun _ _ => rfl)) pa_nil (by rfl)) (by rfl)) (by decide) (by decide) (by rfl) (by rfl)) (@pg_tup _ _ _ _ _ _ rfl (@pgs_cons _ _ _ _ _ (@pg_name _ _ (8) _ (sc_way_at).nd rfl (Or.inl rfl) (by first | exact .inl rfl | exact .inr rfl | assumption)) (@pgs_cons _ _ _ _ _ (@pg_name _ _ (9) _ (sc_way_at).nd rfl (Or.inl rfl) (by first | exact .inl rfl | exact .inr rfl | assumption)) pgs_nil (by rfl)) (by rfl)) (by rfl) (by rfl)) (by rfl) (by rfl) (by rfl)) (@pss_cons _ _ _ _ _ (@ps_set _ _ (10) _ _ _ _ (sc_way_at).nd rfl (Or.inl rfl) (@pe_cal _ _ _ _ _ _ _ _ _ _ _ C_way_at hr (by omega) rfl (@pa_cons _ _ _ _ _ (@pe_slice _ _ _ _ _ _ _ _ _ _ sl_list (@pv _ 0 _ _ (by rfl) (by first | exact Or.inl rfl | exact Or.inr ( Or.inl rfl ) | exact Or.inr ( Or.inr rfl )) (by decide) (by decide)) po_none (@po_some _ _ _ (@pv _ 5 _ _ (by rfl) (by first | exact Or.inl rfl | exact Or.inr ( Or.inl rfl ) | exact Or.inr ( Or.inr rfl )) (by decide) (by decide)))) (@pa_cons _ _ _ _ _ (@pv _ 1 _ _ (by rfl) (by first | exact Or.inl rfl | exact Or.inr ( Or.inl rfl ) | exact Or.inr ( Or.inr rfl )) (by decide) (by decide)) (@pa_cons _ _ _ _ _ (@pv _ 2 _ _ (by rfl) (by first | exact Or.inl rfl | exact Or.inr ( Or.inl rfl ) | exact Or.inr ( Or.inr rfl )) (by decide) (by decide)) (@pa_cons _ _ _ _ _ (@pv _ 9 _ _ (by rfl) (by first | exact Or.inl rfl | exact Or.inr ( Or.inl rfl ) | exact Or.inr ( Or.inr rfl )) (by decide) (by decide)) pa_nil (by rfl)) (by rfl)) (by rfl)) (by rfl)) (by decide) (by rfl) (by rfl)) (by rfl) (by first | exact .inl rfl | exact .inr rfl | assumption)) (@pss_cons _ _ _ _ _ (@ps_set _ _ (11) _ _ _ _ (sc_way_at).nd rfl (Or.inl rfl) (@pe_cal _ _ _ _ _ _ _ _ _ _ _ C_way_at hr (by omega) rfl (@pa_cons _ _ _ _ _ (@pe_slice _ _ _ _ _ _ _ _ _ _ sl_list (@pv _ 0 _ _ (by rfl) (by first | exact Or.inl rfl | exact Or.inr ( Or.inl rfl ) | exact Or.inr ( Or.inr rfl )) (by decide) (by decide)) (@po_some _ _ _ (@pv _ 5 _ _ (by rfl) (by first | exact Or.inl rfl | exact Or.inr ( Or.inl rfl ) | exact Or.inr ( Or.inr rfl )) (by decide) (by decide))) po_none) (@pa_cons _ _ _ _ _ (@pv _ 1 _ _ (by rfl) (by first | exact Or.inl rfl | exact Or.inr ( Or.inl rfl ) | exact Or.inr ( Or.inr rfl )) (by decide) (by decide)) (@pa_cons _ _ _ _ _ (@pv _ 2 _ _ (by rfl) (by first | exact Or.inl rfl | exact Or.inr ( Or.inl rfl ) | exact Or.inr ( Or.inr rfl )) (by decide) (by decide)) (@pa_cons _ _ _ _ _ (@pv _ 7 _ _ (by rfl) (by first | exact Or.inl rfl | exact Or.inr ( Or.inl rfl ) | exact Or.inr ( Or.inr rfl )) (by decide) (by decide)) pa_nil (by rfl)) (by rfl)) (by rfl)) (by rfl)) (by decide) (by rfl) (by rfl)) (by rfl) (by first | exact .inl rfl | exact .inr rfl | assumption)) (@pss_one _ _ _ (@ps_ret _ _ _ _ (@pe_tup _ _ _ _ _ (@pa_cons _ _ _ _ _ (@pe_ix _ _ _ _ _ _ _ ix_str (@pv _ 1 _ _ (by rfl) (by first | exact Or.inl rfl | exact Or.inr ( Or.inl rfl ) | exact Or.inr ( Or.inr rfl )) (by decide) (by decide)) (@pv _ 8 _ _ (by rfl) (by first | exact Or.inl rfl | exact Or.inr ( Or.inl rfl ) | exact Or.inr ( Or.inr rfl )) (by decide) (by decide)) (fun _ _ => rfl)) (@pa_cons _ _ _ _ _ (@pv _ 10 _ _ (by rfl) (by first | exact Or.inl rfl | exact Or.inr ( Or.inl rfl ) | exact Or.inr ( Or.inr rfl )) (by decide) (by decide)) (@pa_cons _ _ _ _ _ (@pv _ 11 _ _ (by rfl) (by first | exact Or.inl rfl | exact Or.inr ( Or.inl rfl ) | exact Or.inr ( Or.inr rfl )) (by decide) (by decide)) pa_nil (by rfl)) (by rfl)) (by rfl))))))))))))), ?_⟩
    refine ⟨_, rfl, pr, _, rfl, .inl (SqL.of hr'), ?_⟩
    rw [List.length_map]
    by_cases c1 : ns.length = 1
    · refine ⟨_, rfl, rfl, true, congrArg V.bl (decide_eq_true (by rw [c1]; rfl)), iteT ?_⟩
      obtain ⟨a, rfl⟩ := List.length_eq_one_iff.mp c1
      exact ⟨_, rfl, pr, _, _, _, rfl, rfl, SqL.of hr', rfl, q _ _ (Same.refl _)⟩
    refine ⟨_, rfl, rfl, false, congrArg V.bl (decide_eq_false (fun e => c1 (by injection e with e; omega))), iteF ?_⟩
    have bd := cn_bd z.length hz
    refine ⟨fun mm σ H' => ∃ (j : Nat) (x : Int), σ = [some (.ref pr), some (.str z), some (.ref pc), some (.int x), some (.int (ns.length : Nat)), some (.int (1 + (j : Int))), none, none, none, none, none, none] ∧ H = H' ∧ 0 ≤ x ∧ x < rst z.length ns.length j ∧ mm = ns.length - j, ?_, ?_⟩
    · exact ⟨_, 0, nb, rfl, rfl, nb0, by rw [rst_zero hz (by omega) (by omega)]; exact nb1, rfl⟩
    rintro mm σ H' ⟨j, x, rfl, rfl, x0, x1, rfl⟩
    have jm : j < ns.length - 1 := by
      by_cases c : j < ns.length - 1
      · exact c
      · rw [rst_end (by omega)] at x1; omega
    rw [rst_step jm] at x1
    have e3 : (1 + (j : Int)) = ((1 + j : Nat) : Int) := by omega
    have e2 : ((ns.length : Nat) : Int) - (1 + (j : Int)) = ((ns.length - (1 + j) : Nat) : Int) := by omega
    have a1 : atI ((cl z.length k).map V.int) (1 + (j : Int)) = some (.int (cn z.length (1 + j))) := by rw [e3]; exact cl_at hk (by omega)
    have a2 : atI ((cl z.length k).map V.int) (((ns.length : Nat) : Int) - (1 + (j : Int))) = some (.int (cn z.length (ns.length - (1 + j)))) := by rw [e2]; exact cl_at hk (by omega)
    have b1 := bd (1 + j) (by omega)
    have b2 := bd (ns.length - (1 + j)) (by omega)
    refine ⟨_, rfl, _, rfl, _, rfl, _, rfl, _, rfl, _, rfl, _, _, rfl, rfl, z, pc, _, _, _, _, _, rfl, hz, hc, a1, a2, b2.1, b2.2, _, _, rfl, rfl, ?_⟩
    by_cases c : x ≥ (z.length : Int) * cn z.length (1 + j) * cn z.length (ns.length - (1 + j))
    · refine ⟨true, congrArg V.bl (decide_eq_true c), iteT ⟨fun σ' H' => ∃ m', m' < ns.length - j ∧ ∃ (j : Nat) (x : Int), σ' = [some (.ref pr), some (.str z), some (.ref pc), some (.int x), some (.int (ns.length : Nat)), some (.int (1 + (j : Int))), none, none, none, none, none, none] ∧ H = H' ∧ 0 ≤ x ∧ x < rst z.length ns.length j ∧ m' = ns.length - j, fun _ _ h => h, ?_⟩⟩
      refine ⟨_, rfl, _, rfl, _, rfl, _, rfl, _, rfl, _, rfl, _, _, rfl, rfl, z, pc, _, _, _, _, _, rfl, hz, hc, a1, a2, b2.1, b2.2, _, _, rfl, rfl, ?_⟩
      refine ⟨_, rfl, _, _, rfl, rfl, ns.length - (j + 1), by omega, j + 1, x - (z.length : Int) * cn z.length (1 + j) * cn z.length (ns.length - (1 + j)), ?_, rfl, by omega, by omega, rfl⟩
      have e5 : (1 + (j : Int)) + 1 = 1 + ((j + 1 : Nat) : Int) := by omega
      show [_, _, _, _, _, some (V.int ((1 + (j : Int)) + 1)), _, _, _, _, _, _] = _
      rw [e5]
    refine ⟨false, congrArg V.bl (decide_eq_false c), iteF ?_⟩
    have xl : x < (z.length : Int) * cn z.length (1 + j) * cn z.length (ns.length - (1 + j)) := by omega
    generalize hA : cn z.length (1 + j) = A at *
    generalize hC : cn z.length (ns.length - (1 + j)) = C at *
    have C0 : 0 < C := by
      by_cases z0 : C = 0
      · rw [z0, Int.mul_zero] at xl; omega
      · omega
    have sA : 0 < (z.length : Int) * A := by
      by_cases z0 : 0 < (z.length : Int) * A
      · exact z0
      · have := Int.mul_le_mul_of_nonneg_right (show (z.length : Int) * A ≤ 0 by omega) (Int.le_of_lt C0)
        rw [Int.zero_mul] at this; omega
    have A0 : 0 < A := by
      by_cases z0 : A = 0
      · rw [z0, Int.mul_zero] at sA; omega
      · omega
    have y0 : 0 ≤ x / C := Int.ediv_nonneg x0 (Int.le_of_lt C0)
    have y1 : x / C < (z.length : Int) * A := Int.ediv_lt_of_lt_mul C0 xl
    have r0 := Int.emod_nonneg x (Int.ne_of_gt C0)
    have r1 := Int.emod_lt_of_pos x C0
    have l0 := Int.emod_nonneg (x / C) (Int.ne_of_gt A0)
    have l1 := Int.emod_lt_of_pos (x / C) A0
    have p0 : 0 ≤ x / C / A := Int.ediv_nonneg y0 (Int.le_of_lt A0)
    have p1 : x / C / A < (z.length : Int) := Int.ediv_lt_of_lt_mul A0 y1
    refine ⟨_, rfl, _, rfl, _, rfl, _, rfl, _, _, rfl, rfl, pc, _, _, _, rfl, rfl, SqL.of hc, a2, x, C, rfl, ⟨C0, by omega⟩, fun t1 n1 => ?_⟩
    have g1 := Same.new n1 (.tup [.int (x / C), .int (x % C)])
    refine ⟨t1, _, rfl, SqT.of upd_same, rfl, _, _, rfl, _, _, rfl, rfl, ?_⟩
    refine ⟨_, rfl, _, rfl, _, rfl, pc, _, _, _, rfl, rfl, SqL.of (g1 _ _ hc), a1, x / C, A, rfl, ⟨A0, by omega⟩, fun t2 n2 => ?_⟩
    have g2 := g1.trans (Same.new n2 (.tup [.int (x / C / A), .int (x / C % A)]))
    refine ⟨t2, _, rfl, SqT.of upd_same, rfl, _, _, rfl, _, _, rfl, rfl, ?_⟩
    have hl1 : 1 + j ≤ ns.length := by omega
    refine ⟨_, rfl, _, rfl, _, rfl, pr, _, rfl, SqL.of (g2 _ _ hr'), fun s1 m1 => ?_⟩
    rw [e3, cut_take ns (1 + j) hl1]
    have g3 := g2.trans (Same.new m1 (.lst ((ns.take (1 + j)).map V.int)))
    have lt : (ns.take (1 + j)).length = 1 + j := by rw [List.length_take]; omega
    refine ⟨_, rfl, _, rfl, _, rfl, z, s1, pc, ns.take (1 + j), k, _, rfl, hz, upd_same, g3 _ _ hc, hk, by omega, by omega, by omega, l0, by rw [lt, hA]; exact l1, fun lv H4 g4 => ?_⟩
    have G4 := g3.trans g4
    refine ⟨_, rfl, _, rfl, _, rfl, pr, _, rfl, SqL.of (G4 _ _ hr'), fun s2 m2 => ?_⟩
    rw [cut_drop ns (1 + j) hl1]
    have g5 := G4.trans (Same.new m2 (.lst ((ns.drop (1 + j)).map V.int)))
    have ld : (ns.drop (1 + j)).length = ns.length - (1 + j) := by rw [List.length_drop]
    refine ⟨_, rfl, _, rfl, _, rfl, z, s2, pc, ns.drop (1 + j), k, _, rfl, hz, upd_same, g5 _ _ hc, hk, by omega, by omega, by omega, r0, by rw [ld, hC]; exact r1, fun rv H6 g6 => ?_⟩
    have G6 := g5.trans g6
    obtain ⟨i, hi⟩ : ∃ i : Nat, x / C / A = (i : Int) := ⟨(x / C / A).toNat, by omega⟩
    have il : i < z.cps.toList.length := by
      have : z.length = z.cps.toList.length := rfl
      omega
    refine ⟨_, rfl, _, rfl, z, _, z.cps.toList[i], rfl, rfl, le_line (by omega), by rw [hi]; exact atI_nat (List.getElem?_eq_getElem il), _, rfl, _, rfl, (by show 3 ≤ sizeLine; decide), fun t7 n7 => q _ _ (G6.trans (Same.new n7 _))⟩
end
end Put
set_option Elab.async false
set_option linter.all false
set_option maxRecDepth 100000
set_option maxHeartbeats 2000000
namespace Put
open PySem L2
def Sg.ch : Sg → Nat
  | .plus => 43
  | .minus => 45
  | .times => 42
theorem Sg.str_ch (g : Sg) : g.str = ⟨#[g.ch]⟩ := by cases g <;> decide +kernel
theorem str_app_list (a b : Str) : (a ++ b).cps.toList = a.cps.toList ++ b.cps.toList := by
  show (a.cps ++ b.cps).toList = _
  exact Array.toList_append
theorem sgText_cps : ∀ gs : List Sg, (sgText gs).cps.toList = gs.map Sg.ch
  | [] => by decide +kernel
  | g :: r => by
    show (g.str ++ sgText r).cps.toList = _
    rw [str_app_list, sgText_cps r, Sg.str_ch]; rfl
theorem sgText_size (gs : List Sg) : (sgText gs).cps.size = gs.length := by
  rw [← Array.length_toList, sgText_cps, List.length_map]
theorem sgText_at {gs : List Sg} {i c : Nat} (h : (sgText gs).cps[i]? = some c) : ∃ g, gs[i]? = some g ∧ c = g.ch := by
  rw [← Array.getElem?_toList, sgText_cps, List.getElem?_map] at h
  obtain ⟨g, h1, h2⟩ := Option.map_eq_some_iff.mp h
  exact ⟨g, h1, h2.symm⟩
theorem sgText_asc (gs : List Sg) : (sgText gs).cps.all (· < 128) = true := by
  rw [← Array.all_toList, sgText_cps, List.all_eq_true]
  intro c hc
  obtain ⟨g, _, rfl⟩ := List.mem_map.mp hc
  cases g <;> decide
section
variable {P : Program} {w : World} {K : PySem.W.Frag} {mg : Str → Option Value} {base : Heap} {f : Addr} {fd : FuncData}
def spNth1 (aR aS aN : Addr) : Sp := fun vs H Q E => ∃ d v e u b x, vs = [v, u, x] ∧ Dat H d v ∧ Dat H e u ∧ Dat H b x ∧ (isRowD d = false → ∀ H', Same H H' → E (.ref aR) none H') ∧
  (isRowD d = true → (isSgsD e = false → ∀ H', Same H H' → E (.ref aS) none H') ∧ (isSgsD e = true → (okN (cn (sgl e) (rlen d)) b = false → ∀ H', Same H H' → E (.ref aN) none H') ∧ (okN (cn (sgl e) (rlen d)) b = true → ∀ y H', Same H H' → Q y H')))
abbrev s_nth_way : Stmt := top 41
theorem sc_nth_way : FnScope ["row", "signs", "number", "counts"] ["row", "signs", "number"] (defScope s_nth_way) := ⟨rfl, rfl, rfl, by decide +kernel, rfl, by decide +kernel, by decide +kernel⟩
theorem ok_nth_way1 {aP aR aS aW aN aF : Addr} (F : Fun K "nth_way" "nth_way" s_nth_way f fd) (B : Bu K mg) (XC : Xc K mg aP aR aS aW aN aF) (C_need_row : Cal1 P w K mg base "need_row" 3 ["thing"] (spNeedRow1 aR)) (C_need_signs : Cal1 P w K mg base "need_signs" 2 ["thing"] (spNeedSigns1 aS)) (C_counts_up_to : Cal P w K mg base "counts_up_to" 2 ["signs", "many"] spCts) (C_is_whole : Cal P w K mg base "is_whole" 1 ["thing"] (spWhole K)) (C_way_at : Cal P w K mg base "way_at" 11 ["row", "signs", "counts", "number"] (spWat 9)) : FnOk P w K mg base (CX1 P w) 12 f fd ["row", "signs", "number"] (spNth1 aR aS aN) := by
  refine Fun.ok1 F sc_nth_way (fun vs H Q E h => ?_) (fun cdv A outer s H vs Q E hr h => ?_)
  · obtain ⟨d, v, e, u, b, x, rfl, _⟩ := h
    rfl
  obtain ⟨d, v, e, u, b, x, rfl, hd, he, hb, q1, q2⟩ := h
  refine ⟨_, (@pss_cons _ _ _ _ _ (@ps_expr _ _ _ _ (@pe_cal1 _ _ _ _ _ _ _ _ _ _ _ _ C_need_row pass1 hr (by omega) rfl (@pa_cons _ _ _ _ _ (@pv _ 0 _ _ (by rfl) (by first | exact Or.inl rfl | exact Or.inr ( Or.inl rfl ) | exact Or.inr ( Or.inr rfl )) (by decide) (by decide)) pa_nil (by rfl)) (by decide) (by rfl) (by rfl)) (by rfl)) (@pss_cons _ _ _ _ _ (@ps_expr _ _ _ _ (@pe_cal1 _ _ _ _ _ _ _ _ _ _ _ _ C_need_signs pass1 hr (by omega) rfl (@pa_cons _ _ _ _ _ (@pv _ 1 _ _ (by rfl) (by first | exact Or.inl rfl | exact Or.inr ( Or.inl rfl ) | exact Or.inr ( Or.inr rfl )) (by decide) (by decide)) pa_nil (by rfl)) (by decide) (by rfl) (by rfl)) (by rfl)) (@pss_cons _ _ _ _ _ (@ps_set _ _ (3) _ _ _ _ (sc_nth_way).nd rfl (Or.inl rfl) (@pe_cal _ _ _ _ _ _ _ _ _ _ _ C_counts_up_to hr (by omega) rfl (@pa_cons _ _ _ _ _ (@pv _ 1 _ _ (by rfl) (by first | exact Or.inl rfl | exact Or.inr ( Or.inl rfl ) | exact Or.inr ( Or.inr rfl )) (by decide) (by decide)) (@pa_cons _ _ _ _ _ (@pe_callB _ _ _ _ _ _ _ _ _ call_len_seq rfl B.ilen PySem.boot_len (@pa_cons _ _ _ _ _ (@pv _ 0 _ _ (by rfl) (by first | exact Or.inl rfl | exact Or.inr ( Or.inl rfl ) | exact Or.inr ( Or.inr rfl )) (by decide) (by decide)) pa_nil (by rfl)) (by decide) (by decide) (by rfl) (by rfl)) pa_nil (by rfl)) (by rfl)) (by decide) (by rfl) (by rfl)) (by rfl) (by first | exact .inl rfl | exact .inr rfl | assumption)) (@pss_cons _ _ _ _ _ (@ps_if _ _ _ _ _ _ _ _ (@PW.pt _ _ _ (@pw_or _ _ _ _ _ _ _ (@pt_not _ _ _ _ (@pt_val _ _ _ (@pe_cal _ _ _ _ _ _ _ _ _ _ _ C_is_whole hr (by omega) rfl (@pa_cons _ _ _ _ _ (@pv _ 2 _ _ (by rfl) (by first | exact Or.inl rfl | exact Or.inr ( Or.inl rfl ) | exact Or.inr ( Or.inr rfl )) (by decide) (by decide)) pa_nil (by rfl)) (by decide) (by rfl) (by rfl)) (by intro _; rfl))) (@pw_or1 _ _ _ _ (@pt_not _ _ _ _ (@pt_chain _ _ _ _ _ _ _ _ _ _ _ _ op_le op_lt pe_int (@pv _ 2 _ _ (by rfl) (by first | exact Or.inl rfl | exact Or.inr ( Or.inl rfl ) | exact Or.inr ( Or.inr rfl )) (by decide) (by decide)) (@pe_ix _ _ _ _ _ _ _ ix_list (@pv _ 3 _ _ (by rfl) (by first | exact Or.inl rfl | exact Or.inr ( Or.inl rfl ) | exact Or.inr ( Or.inr rfl )) (by decide) (by decide)) (@pe_callB _ _ _ _ _ _ _ _ _ call_len_seq rfl B.ilen PySem.boot_len (@pa_cons _ _ _ _ _ (@pv _ 0 _ _ (by rfl) (by first | exact Or.inl rfl | exact Or.inr ( Or.inl rfl ) | exact Or.inr ( Or.inr rfl )) (by decide) (by decide)) pa_nil (by rfl)) (by decide) (by decide) (by rfl) (by rfl)) (fun _ _ => rfl)) (by with_unfolding_all rfl)))))) (@pss_one _ _ _ (@ps_raise _ _ _ _ _ _ _ _ _ _ rz1 XC.eNoNumber rfl rfl XC.mNoNumber (by rfl) (by decide))) pss_nil) (@pss_one _ _ _ (@ps_ret _ _ _ _ (@pe_cal _ _ _ _ _ _ _ _ _ _ _ C_way_at hr (by omega) rfl (@pa_cons _ _ _ _ _ (@pv _ 0 _ _ (by rfl) (by first | exact Or.inl rfl | exact Or.inr ( Or.inl rfl ) | exact Or.inr ( Or.inr rfl )) (by decide) (by decide)) (@pa_cons _ _ _ _ _ (@pv _ 1 _ _ (by rfl) (by first | exact Or.inl rfl | exact Or.inr ( Or.inl rfl ) | exact Or.inr ( Or.inr rfl )) (by decide) (by decide)) (@pa_cons _ _ _ _ _ (@pv _ 3 _ _ (by rfl) (by first | exact Or.inl rfl | exact Or.inr ( Or.inl rfl ) | exact Or.inr ( Or.inr rfl )) (by decide) (by decide)) (@pa_cons _ _ _ _ _ (@pv _ 2 _ _ (by rfl) (by first | exact Or.inl rfl | exact Or.inr ( Or.inl rfl ) | exact Or.inr ( Or.inr rfl )) (by decide) (by decide)) pa_nil (by rfl)) (by rfl)) (by rfl)) (by rfl)) (by decide) (by rfl) (by rfl)))))))), ?_⟩
  refine ⟨_, rfl, d, v, rfl, hd, fun c H1 g1 => ?_, q1⟩
  obtain ⟨q3, q4⟩ := q2 c
  refine ⟨_, rfl, e, u, rfl, Dat.mono g1 e u he, fun c2 => ?_, fun c2 => q3 c2 H1 g1⟩
  obtain ⟨q5, q6⟩ := q4 c2
  obtain ⟨a, ns, rfl, ha, l1, l9, lr⟩ := row_in c hd
  obtain ⟨z, rfl⟩ := sgs_str c2
  have eu : u = .str z := by simpa only [Dat] using he
  subst eu
  obtain ⟨z1, z3⟩ := seven_len c2
  have ha1 := g1 _ _ ha
  refine ⟨_, rfl, _, rfl, a, _, rfl, .inl (SqL.of ha1), ?_⟩
  rw [List.length_map]
  refine ⟨z, _, rfl, z3, by omega, by omega, fun p H2 g2 n2 e2 => ?_⟩
  have G2 := g1.trans g2
  have e8 : ((ns.length : Int) - 1).toNat = ns.length - 1 := by omega
  rw [e8] at e2
  have hb2 := Dat.mono G2 b x hb
  have ha2 := g2 _ _ ha1
  have eat : atI ((cl z.length (ns.length - 1)).map V.int) ((ns.length : Nat) : Int) = some (.int (cn z.length ns.length)) := cl_at (by omega) (by omega)
  have ec : cn (sgl (.str z)) (rlen d) = cn z.length ns.length := by rw [← lr]; rfl
  rw [ec] at q5 q6
  refine ⟨_, rfl, x, _, rfl, hb2.ty, ?_⟩
  cases b with
  | int i =>
    have ex : x = .int i := by simpa only [Dat] using hb
    subst ex
    refine ⟨true, rfl, iteF ?_⟩
    by_cases c3 : 0 ≤ i
    · refine ⟨_, rfl, _, _, rfl, rfl, true, congrArg V.bl (decide_eq_true c3), iteT ⟨_, rfl, _, rfl, a, _, rfl, .inl (SqL.of ha2), ?_⟩⟩
      rw [List.length_map]
      refine ⟨p, _, _, _, rfl, rfl, SqL.of e2, eat, ?_⟩
      by_cases c4 : i < cn z.length ns.length
      · refine ⟨_, _, rfl, rfl, true, congrArg V.bl (decide_eq_true c4), iteF ?_⟩
        have c5 : okN (cn z.length ns.length) (.int i) = true := by simp [okN, c3, c4]
        exact ⟨_, rfl, _, rfl, _, rfl, _, rfl, z, a, p, ns, ns.length - 1, i, rfl, z3, ha2, e2, by omega, by omega, l1, l9, c3, c4, fun y H3 g3 => q6 c5 y H3 (G2.trans g3)⟩
      · refine ⟨_, _, rfl, rfl, false, congrArg V.bl (decide_eq_false c4), iteT ?_⟩
        exact q5 (by simp [okN, c4]) H2 G2
    · refine ⟨_, rfl, _, _, rfl, rfl, false, congrArg V.bl (decide_eq_false c3), iteF ⟨false, rfl, iteT ?_⟩⟩
      exact q5 (by simp [okN, c3]) H2 G2
  | none => exact ⟨false, rfl, iteT (q5 rfl H2 G2)⟩
  | bool b => exact ⟨false, rfl, iteT (q5 rfl H2 G2)⟩
  | str b => exact ⟨false, rfl, iteT (q5 rfl H2 G2)⟩
  | list b => exact ⟨false, rfl, iteT (q5 rfl H2 G2)⟩
  | tuple b => exact ⟨false, rfl, iteT (q5 rfl H2 G2)⟩
  | dict b => exact ⟨false, rfl, iteT (q5 rfl H2 G2)⟩
def spHas : Sp := fun vs H Q _ => ∃ (wy : Wy) (v : V) (z : Str), vs = [v, .str z] ∧ WyIn H wy v ∧ wy.size ≤ 20 ∧ ∀ H', Same H H' → Q (.bl (wy.sgs.all fun g => hasS z g.str)) H'
theorem sgs_len : ∀ wy : Wy, wy.sgs.length + 1 = wy.size
  | .num _ => rfl
  | .node g l r => by
    have a := sgs_len l; have b := sgs_len r
    simp only [Wy.sgs, Wy.size, List.length_append, List.length_cons, List.length_nil]; omega
abbrev s_has_signs_among : Stmt := top 43
theorem sc_has_signs_among : FnScope ["way", "signs"] ["way", "signs"] (defScope s_has_signs_among) := ⟨rfl, rfl, rfl, by decide +kernel, rfl, by decide +kernel, by decide +kernel⟩
theorem ok_has_signs (F : Fun K "has_signs_among" "has_signs_among" s_has_signs_among f fd) (B : Bu K mg) (C_join_signs : Cal P w K mg base "join_signs" 21 ["way"] (spSgs 20)) : FnOk P w K mg base CX0 22 f fd ["way", "signs"] spHas := by
  refine F.ok sc_has_signs_among (fun vs H Q E h => ?_) (fun cdv A outer s H vs Q E hr h => ?_)
  · obtain ⟨wy, v, z, rfl, _⟩ := h
    rfl
  obtain ⟨wy, v, z, rfl, hw, h20, q⟩ := h
  refine ⟨_, (@pss_one _ _ _ (@ps_ret _ _ _ _ (@pe_callB _ _ _ _ _ _ _ _ _ (@call_all _ rfl) rfl B.iall PyProof.Rows.boot_all (@pa_cons _ _ _ _ _ (@pe_lc _ _ _ _ _ _ _ _ (["sign", "signs"]) ([none, some 1]) _ _ _ _ rfl (@pi_str _ _ _ _ (@pe_cal _ _ _ _ _ _ _ _ _ _ _ C_join_signs hr (by omega) rfl (@pa_cons _ _ _ _ _ (@pv _ 0 _ _ (by rfl) (by first | exact Or.inl rfl | exact Or.inr ( Or.inl rfl ) | exact Or.inr ( Or.inr rfl )) (by decide) (by decide)) pa_nil (by rfl)) (by decide) (by rfl) (by rfl))) rfl ⟨rfl, trivial⟩ ⟨⟨rfl, Or.inl rfl, Or.inl rfl⟩, trivial⟩ (fun _ _ _ _ => ⟨(@pg_name _ _ (0) _ (show List.Nodup (["sign", "signs"] : List Str) by decide +kernel) rfl (Or.inl rfl) (by first | exact .inl rfl | exact .inr rfl | assumption)), pifs_nil, (@pe_cmpR _ _ _ _ _ _ _ _ op_in_str (@pv _ 0 _ _ (by rfl) (by first | exact Or.inl rfl | exact Or.inr ( Or.inl rfl ) | exact Or.inr ( Or.inr rfl )) (by decide) (by decide)) (@pv _ 1 _ _ (by rfl) (by first | exact Or.inl rfl | exact Or.inr ( Or.inl rfl ) | exact Or.inr ( Or.inr rfl )) (by decide) (by decide)) (by with_unfolding_all rfl))⟩) (by rfl) (by rfl) (by rfl) (by rfl) (by intro _; rfl)) pa_nil (by rfl)) (by decide) (by decide) (by rfl) (by rfl)))), ?_⟩
  have dl := wy.deep_le
  have sl := sgs_len wy
  refine ⟨_, rfl, wy, v, rfl, hw, h20, by omega, fun H1 g1 => ⟨_, rfl, sgText_asc _, ?_⟩⟩
  refine lc_str (fun i ys H' => H' = H1 ∧ ys = ((wy.sgs.take i).map fun g => hasS z g.str).map V.bl) ⟨rfl, rfl⟩ ?_ ?_ ?_
  · rintro i ys H' hi ⟨rfl, rfl⟩
    rw [List.length_map, List.length_map, List.length_take]
    exact small1000 (by omega)
  · rintro i c ys H' hc ⟨rfl, rfl⟩ nx
    obtain ⟨g, hg, rfl⟩ := sgText_at hc
    refine ⟨_, rfl, _, rfl, _, _, rfl, rfl, nx ⟨rfl, ?_⟩⟩
    rw [List.take_add_one, hg, List.map_append, List.map_append, ← Sg.str_ch]
    rfl
  · rintro ys H' ⟨rfl, rfl⟩ p np
    rw [sgText_size, List.take_length]
    refine ⟨p, _, rfl, SqL.of upd_same, ?_⟩
    rw [List.all_map]
    exact q _ (g1.trans (Same.new np _))
def spNat (n : Nat) : Sp := fun vs H Q _ => ∃ (wy : Wy) (v : V) (z : Str) (pc : Addr) (k : Nat), vs = [v, .str z, .ref pc] ∧ WyIn H wy v ∧ z.length ≤ 3 ∧ H pc = some (.lst ((cl z.length k).map V.int)) ∧ k ≤ 8 ∧ wy.size ≤ k + 1 ∧ wy.deep ≤ n ∧ (∀ g ∈ wy.sgs, hasS z g.str = true) ∧ ∀ (i : Int) H', Same H H' → Q (.int i) H'
abbrev s_number_at : Stmt := top 47
theorem sc_number_at : FnScope ["way", "signs", "counts", "sign", "left_way", "right_way", "left", "right", "ahead", "both"] ["way", "signs", "counts"] (defScope s_number_at) := ⟨rfl, rfl, rfl, by decide +kernel, rfl, by decide +kernel, by decide +kernel⟩
theorem ok_number_at (F : Fun K "number_at" "number_at" s_number_at f fd) (bF : Binds K fd ["way", "signs", "counts"] []) (mF : mg "number_at" = some (.ref f)) (B : Bu K mg) (C_is_whole : Cal P w K mg base "is_whole" 1 ["thing"] (spWhole K)) (C_list_numbers : Cal P w K mg base "list_numbers" 21 ["way"] (spNums 20)) (C_ways_by_cut : Cal P w K mg base "ways_by_cut" 1 ["signs", "counts", "left", "right"] spWbc) : ∀ n, FnOk P w K mg base CX0 (n + 22) f fd ["way", "signs", "counts"] (spNat n) := by
  intro n
  induction n with
  | zero =>
    refine ⟨fun vs H Q E h => ?_, fun A outer s H args us vs Q E _ _ _ _ h => ?_⟩
    · obtain ⟨wy, v, z, pc, k, rfl, _⟩ := h
      rfl
    · obtain ⟨wy, v, z, pc, k, _, _, _, _, _, _, hd, _⟩ := h
      cases wy <;> exact absurd hd (by simp [Wy.deep])
  | succ n ih =>
    have C_number_at : Cal P w K mg base "number_at" (n + 22) ["way", "signs", "counts"] (spNat n) := ⟨f, fd, ih, bF, F.kp, mF⟩
    refine F.ok sc_number_at (fun vs H Q E h => ?_) (fun cdv A outer s H vs Q E hr h => ?_)
    · obtain ⟨wy, v, z, pc, k, rfl, _⟩ := h
      rfl
    obtain ⟨wy, v, z, pc, k, rfl, hw, hz, hc, hk, hsz, hdp, hsg, q⟩ := h
    refine ⟨_, (@pss_cons _ _ _ _ _ (@ps_if _ _ _ _ _ _ _ _ (@pt_val _ _ _ (@pe_cal _ _ _ _ _ _ _ _ _ _ _ C_is_whole hr (by omega) rfl (@pa_cons _ _ _ _ _ (@pv _ 0 _ _ (by rfl) (by first | exact Or.inl rfl | exact Or.inr ( Or.inl rfl ) | exact Or.inr ( Or.inr rfl )) (by decide) (by decide)) pa_nil (by rfl)) (by decide) (by rfl) (by rfl)) (by intro _; rfl)) (@pss_one _ _ _ (@ps_ret _ _ _ _ pe_int)) pss_nil) (@pss_cons _ _ _ _ _ (@ps_asg _ _ _ _ _ _ (@pv _ 0 _ _ (by rfl) (by first | exact Or.inl rfl | exact Or.inr ( Or.inl rfl ) | exact Or.inr ( Or.inr rfl )) (by decide) (by decide)) (@pg_tup _ _ _ _ _ _ rfl (@pgs_cons _ _ _ _ _ (@pg_name _ _ (3) _ (sc_number_at).nd rfl (Or.inl rfl) (by first | exact .inl rfl | exact .inr rfl | assumption)) (@pgs_cons _ _ _ _ _ (@pg_name _ _ (4) _ (sc_number_at).nd rfl (Or.inl rfl) (by first | exact .inl rfl | exact .inr rfl | assumption)) (@pgs_cons _ _ _ _ _ (@pg_name _ _ (5) _ (sc_number_at).nd rfl (Or.inl rfl) (by first | exact .inl rfl | exact .inr rfl | assumption)) pgs_nil (by rfl)) (by rfl)) (by rfl)) (by rfl) (by rfl)) (by rfl) (by rfl) (by rfl)) (@pss_cons _ _ _ _ _ (@ps_set _ _ (6) _ _ _ _ (sc_number_at).nd rfl (Or.inr rfl) (@pe_callB _ _ _ _ _ _ _ _ _ call_len_seq rfl B.ilen PySem.boot_len (@pa_cons _ _ _ _ _ (@pe_cal _ _ _ _ _ _ _ _ _ _ _ C_list_numbers hr (by omega) rfl (@pa_cons _ _ _ _ _ (@pv _ 4 _ _ (by rfl) (by first | exact Or.inl rfl | exact Or.inr ( Or.inl rfl ) | exact Or.inr ( Or.inr rfl )) (by decide) (by decide)) pa_nil (by rfl)) (by decide) (by rfl) (by rfl)) pa_nil (by rfl)) (by decide) (by decide) (by rfl) (by rfl)) (by rfl) (by first | exact .inl rfl | exact .inr rfl | assumption)) (@pss_cons _ _ _ _ _ (@ps_set _ _ (7) _ _ _ _ (sc_number_at).nd rfl (Or.inr rfl) (@pe_callB _ _ _ _ _ _ _ _ _ call_len_seq rfl B.ilen PySem.boot_len (@pa_cons _ _ _ _ _ (@pe_cal _ _ _ _ _ _ _ _ _ _ _ C_list_numbers hr (by omega) rfl (@pa_cons _ _ _ _ _ (@pv _ 5 _ _ (by rfl) (by first | exact Or.inl rfl | exact Or.inr ( Or.inl rfl ) | exact Or.inr ( Or.inr rfl )) (by decide) (by decide)) pa_nil (by rfl)) (by decide) (by rfl) (by rfl)) pa_nil (by rfl)) (by decide) (by decide) (by rfl) (by rfl)) (by rfl) (by first | exact .inl rfl | exact .inr rfl | assumption)) (@pss_cons _ _ _ _ _ (@ps_set _ _ (8) _ _ _ _ (sc_number_at).nd rfl (Or.inl rfl) (@pe_callB _ _ _ _ _ _ _ _ _ (@call_sum _ rfl) rfl B.isum PyProof.Rows.boot_sum (@pa_cons _ _ _ _ _ (@pe_lc _ _ _ _ _ _ _ _ (["fewer", "signs", "counts", "left", "right"]) ([none, some 1, some 2, some 6, some 7]) _ _ _ _ rfl (@pi_range2 _ _ _ _ _ _ _ rfl B.irange (@pa_cons _ _ _ _ _ pe_int (@pa_cons _ _ _ _ _ (@pv _ 6 _ _ (by rfl) (by first | exact Or.inl rfl | exact Or.inr ( Or.inl rfl ) | exact Or.inr ( Or.inr rfl )) (by decide) (by decide)) pa_nil (by rfl)) (by rfl)) (by rfl) (by rfl)) rfl ⟨rfl, ⟨rfl, ⟨rfl, ⟨rfl, trivial⟩⟩⟩⟩ ⟨⟨rfl, Or.inl rfl, Or.inl rfl⟩, ⟨⟨rfl, Or.inl rfl, Or.inl rfl⟩, ⟨⟨rfl, Or.inl rfl, Or.inl rfl⟩, ⟨⟨rfl, Or.inl rfl, Or.inl rfl⟩, trivial⟩⟩⟩⟩ (fun _ _ _ _ => ⟨(@pg_name _ _ (0) _ (show List.Nodup (["fewer", "signs", "counts", "left", "right"] : List Str) by decide +kernel) rfl (Or.inl rfl) (by first | exact .inl rfl | exact .inr rfl | assumption)), pifs_nil, (@pe_cal _ _ _ _ _ _ _ _ _ _ _ C_ways_by_cut hr (by omega) rfl (@pa_cons _ _ _ _ _ (@pv _ 1 _ _ (by rfl) (by first | exact Or.inl rfl | exact Or.inr ( Or.inl rfl ) | exact Or.inr ( Or.inr rfl )) (by decide) (by decide)) (@pa_cons _ _ _ _ _ (@pv _ 2 _ _ (by rfl) (by first | exact Or.inl rfl | exact Or.inr ( Or.inl rfl ) | exact Or.inr ( Or.inr rfl )) (by decide) (by decide)) (@pa_cons _ _ _ _ _ (@pv _ 0 _ _ (by rfl) (by first | exact Or.inl rfl | exact Or.inr ( Or.inl rfl ) | exact Or.inr ( Or.inr rfl )) (by decide) (by decide)) (@pa_cons _ _ _ _ _ (@pe_op _ _ _ _ _ _ _ _ op_sub (@pe_op _ _ _ _ _ _ _ _ op_add (@pv _ 3 _ _ (by rfl) (by first | exact Or.inl rfl | exact Or.inr ( Or.inl rfl ) | exact Or.inr ( Or.inr rfl )) (by decide) (by decide)) (@pv _ 4 _ _ (by rfl) (by first | exact Or.inl rfl | exact Or.inr ( Or.inl rfl ) | exact Or.inr ( Or.inr rfl )) (by decide) (by decide))) (@pv _ 0 _ _ (by rfl) (by first | exact Or.inl rfl | exact Or.inr ( Or.inl rfl ) | exact Or.inr ( Or.inr rfl )) (by decide) (by decide))) pa_nil (by rfl)) (by rfl)) (by rfl)) (by rfl)) (by decide) (by rfl) (by rfl))⟩) (by rfl) (by rfl) (by rfl) (by rfl) (by intro _; rfl)) pa_nil (by rfl)) (by decide) (by decide) (by rfl) (by rfl)) (by rfl) (by first | exact .inl rfl | exact .inr rfl | assumption)) (@pss_cons _ _ _ _ _ (@ps_set _ _ (9) _ _ _ _ (sc_number_at).nd rfl (Or.inl rfl) (@pe_op _ _ _ _ _ _ _ _ op_add (@pe_op _ _ _ _ _ _ _ _ op_mul (@pe_bm _ _ _ _ _ _ _ _ _ _ _ _ PySem.F.plainAttrs_str PySem.F.slot_str_index PySem.F.type_str_index mt_str_index (@pv _ 1 _ _ (by rfl) (by first | exact Or.inl rfl | exact Or.inr ( Or.inl rfl ) | exact Or.inr ( Or.inr rfl )) (by decide) (by decide)) (@pa_cons _ _ _ _ _ (@pv _ 3 _ _ (by rfl) (by first | exact Or.inl rfl | exact Or.inr ( Or.inl rfl ) | exact Or.inr ( Or.inr rfl )) (by decide) (by decide)) pa_nil (by rfl)) (by rfl) (by rfl) (by rfl) (by rfl) (by rfl)) (@pe_ix _ _ _ _ _ _ _ ix_list (@pv _ 2 _ _ (by rfl) (by first | exact Or.inl rfl | exact Or.inr ( Or.inl rfl ) | exact Or.inr ( Or.inr rfl )) (by decide) (by decide)) (@pv _ 6 _ _ (by rfl) (by first | exact Or.inl rfl | exact Or.inr ( Or.inl rfl ) | exact Or.inr ( Or.inr rfl )) (by decide) (by decide)) (fun _ _ => rfl))) (@pe_cal _ _ _ _ _ _ _ _ _ _ _ C_number_at hr (by omega) rfl (@pa_cons _ _ _ _ _ (@pv _ 4 _ _ (by rfl) (by first | exact Or.inl rfl | exact Or.inr ( Or.inl rfl ) | exact Or.inr ( Or.inr rfl )) (by decide) (by decide)) (@pa_cons _ _ _ _ _ (@pv _ 1 _ _ (by rfl) (by first | exact Or.inl rfl | exact Or.inr ( Or.inl rfl ) | exact Or.inr ( Or.inr rfl )) (by decide) (by decide)) (@pa_cons _ _ _ _ _ (@pv _ 2 _ _ (by rfl) (by first | exact Or.inl rfl | exact Or.inr ( Or.inl rfl ) | exact Or.inr ( Or.inr rfl )) (by decide) (by decide)) pa_nil (by rfl)) (by rfl)) (by rfl)) (by decide) (by rfl) (by rfl))) (by rfl) (by first | exact .inl rfl | exact .inr rfl | assumption)) (@pss_one _ _ _ (@ps_ret _ _ _ _ (@pe_op _ _ _ _ _ _ _ _ op_add (@pe_op _ _ _ _ _ _ _ _ op_add (@pv _ 8 _ _ (by rfl) (by first | exact Or.inl rfl | exact Or.inr ( Or.inl rfl ) | exact Or.inr ( Or.inr rfl )) (by decide) (by decide)) (@pe_op _ _ _ _ _ _ _ _ op_mul (@pv _ 9 _ _ (by rfl) (by first | exact Or.inl rfl | exact Or.inr ( Or.inl rfl ) | exact Or.inr ( Or.inr rfl )) (by decide) (by decide)) (@pe_ix _ _ _ _ _ _ _ ix_list (@pv _ 2 _ _ (by rfl) (by first | exact Or.inl rfl | exact Or.inr ( Or.inl rfl ) | exact Or.inr ( Or.inr rfl )) (by decide) (by decide)) (@pv _ 7 _ _ (by rfl) (by first | exact Or.inl rfl | exact Or.inr ( Or.inl rfl ) | exact Or.inr ( Or.inr rfl )) (by decide) (by decide)) (fun _ _ => rfl)))) (@pe_cal _ _ _ _ _ _ _ _ _ _ _ C_number_at hr (by omega) rfl (@pa_cons _ _ _ _ _ (@pv _ 5 _ _ (by rfl) (by first | exact Or.inl rfl | exact Or.inr ( Or.inl rfl ) | exact Or.inr ( Or.inr rfl )) (by decide) (by decide)) (@pa_cons _ _ _ _ _ (@pv _ 1 _ _ (by rfl) (by first | exact Or.inl rfl | exact Or.inr ( Or.inl rfl ) | exact Or.inr ( Or.inr rfl )) (by decide) (by decide)) (@pa_cons _ _ _ _ _ (@pv _ 2 _ _ (by rfl) (by first | exact Or.inl rfl | exact Or.inr ( Or.inl rfl ) | exact Or.inr ( Or.inr rfl )) (by decide) (by decide)) pa_nil (by rfl)) (by rfl)) (by rfl)) (by decide) (by rfl) (by rfl))))))))))), ?_⟩
    cases wy with
    | num i =>
      cases hw
      exact ⟨_, rfl, _, "int", rfl, .int i, true, rfl, iteT (q 0 H (Same.refl _))⟩
    | node g l r =>
      obtain ⟨a, vl, vr, rfl, ha, hl, hr'⟩ := hw
      have dd : max l.deep r.deep + 1 ≤ n + 1 := hdp
      have ss : l.size + r.size ≤ k + 1 := hsz
      have zl := l.size_pos; have zr := r.size_pos
      have dl := l.deep_le; have dr := r.deep_le
      have bd := cn_bd z.length hz
      refine ⟨_, rfl, _, "tuple", rfl, .tup ha, false, rfl, iteF ?_⟩
      refine ⟨_, rfl, a, _, rfl, SqT.of ha, rfl, _, _, rfl, _, _, rfl, _, _, rfl, rfl, ?_⟩
      refine ⟨_, rfl, l, vl, rfl, hl, by omega, by omega, fun p1 H1 g1 n1 e1 => ⟨p1, _, rfl, .inl (SqL.of e1), ?_⟩⟩
      rw [List.length_map, l.nums_len]
      refine ⟨_, rfl, r, vr, rfl, hr'.mono (Tups.of g1), by omega, by omega, fun p2 H2 g2 n2 e2 => ⟨p2, _, rfl, .inl (SqL.of e2), ?_⟩⟩
      rw [List.length_map, r.nums_len]
      have G2 := g1.trans g2
      have hc2 := G2 _ _ hc
      refine ⟨_, rfl, 1, _, rfl, ⟨by decide, by decide, by omega, by omega⟩, lc_range (n := ((l.size : Int) - 1).toNat) (fun j ys H' => (∃ ns : List Int, ys = ns.map V.int ∧ ns.length = j) ∧ H' = H2) ⟨⟨[], rfl, rfl⟩, rfl⟩ ?_ ?_ ?_⟩
      · rintro j ys H' hj ⟨⟨ns, rfl, hn⟩, rfl⟩
        rw [List.length_map, hn]
        exact small1000 (by omega)
      · rintro j ys H' hj ⟨⟨ns, rfl, hn⟩, rfl⟩ nx
        have e3 : (1 + (j : Int)) = ((1 + j : Nat) : Int) := by omega
        have e2 : ((l.size : Nat) : Int) + ((r.size : Nat) : Int) - (1 + (j : Int)) = ((l.size + r.size - (1 + j) : Nat) : Int) := by omega
        refine ⟨_, rfl, _, rfl, _, rfl, _, rfl, _, rfl, _, _, rfl, rfl, _, rfl, _, _, rfl, rfl, z, pc, _, _, _, cn z.length (1 + j), cn z.length (l.size + r.size - (1 + j)), rfl, hz, hc2, ?_, ?_, (bd _ (by omega)).1, (bd _ (by omega)).2, nx ⟨⟨ns ++ [(z.length : Int) * cn z.length (1 + j) * cn z.length (l.size + r.size - (1 + j))], ?_, ?_⟩, rfl⟩⟩
        · rw [e3]; exact cl_at hk (by omega)
        · rw [e2]; exact cl_at hk (by omega)
        · rw [List.map_append]; rfl
        · rw [List.length_append, hn]; rfl
      rintro ys H' ⟨⟨ns, rfl, hn⟩, rfl⟩ p3 n3
      have G3 := G2.trans (Same.new n3 (.lst (ns.map V.int)))
      refine ⟨p3, ns, rfl, SqL.of upd_same, ?_⟩
      have hg : hasS z g.str = true := hsg g (List.mem_append_right _ List.mem_cons_self)
      have hgl : ∀ x ∈ l.sgs, hasS z x.str = true := fun x hx => hsg x (List.mem_append_left _ hx)
      have hgr : ∀ x ∈ r.sgs, hasS z x.str = true := fun x hx => hsg x (List.mem_append_right _ (List.mem_cons_of_mem _ hx))
      obtain ⟨i0, rest, ho⟩ : ∃ i0 rest, Builtin.Str.occurrences z g.str 0 z.length 1 = i0 :: rest := by
        unfold hasS at hg
        cases e : Builtin.Str.occurrences z g.str 0 z.length 1 with
        | nil => rw [e] at hg; cases hg
        | cons x y => exact ⟨x, y, rfl⟩
      have hc3 := G3 _ _ hc
      refine ⟨_, rfl, rfl, _, rfl, z, g.str, i0, rest, rfl, rfl, ho, _, rfl, _, rfl, pc, _, _, _, rfl, rfl, SqL.of hc3, cl_at hk (by omega), _, _, rfl, rfl, .inr ⟨by have := bd l.size (by omega); omega, by have := bd l.size (by omega); omega⟩, ?_⟩
      refine ⟨_, rfl, _, rfl, _, rfl, l, vl, z, pc, k, rfl, hl.mono (Tups.of G3), hz, hc3, hk, by omega, by omega, hgl, fun x4 H4 g4 => ⟨_, _, rfl, rfl, ?_⟩⟩
      have G4 := G3.trans g4
      refine ⟨_, rfl, _, rfl, _, rfl, _, rfl, pc, _, _, _, rfl, rfl, SqL.of (G4 _ _ hc), cl_at hk (by omega), _, _, rfl, rfl, .inr ⟨by have := bd r.size (by omega); omega, by have := bd r.size (by omega); omega⟩, _, _, rfl, rfl, ?_⟩
      exact ⟨_, rfl, _, rfl, _, rfl, r, vr, z, pc, k, rfl, hr'.mono (Tups.of G4), hz, G4 _ _ hc, hk, by omega, by omega, hgr, fun x5 H5 g5 => ⟨_, _, rfl, rfl, q _ _ (G4.trans g5)⟩⟩
def spNow1 (aW aS aF : Addr) : Sp := fun vs H Q E => ∃ d v e u, vs = [v, u] ∧ Dat H d v ∧ Dat H e u ∧ (isWayD d = false → ∀ H', Same H H' → E (.ref aW) none H') ∧ (isWayD d = true → (isSgsD e = false → ∀ H', Same H H' → E (.ref aS) none H') ∧ (isSgsD e = true → ∀ z, e = .str z → ∃ wy, WyIn H wy v ∧ wy.size ≤ 9 ∧
  ((wy.sgs.all fun g => hasS z g.str) = false → ∀ H', Same H H' → E (.ref aF) none H') ∧ ((wy.sgs.all fun g => hasS z g.str) = true → ∀ y H', Same H H' → Q y H')))
abbrev s_number_of_way : Stmt := top 42
theorem sc_number_of_way : FnScope ["way", "signs", "counts"] ["way", "signs"] (defScope s_number_of_way) := ⟨rfl, rfl, rfl, by decide +kernel, rfl, by decide +kernel, by decide +kernel⟩
theorem ok_number_of_way1 {aP aR aS aW aN aF : Addr} (F : Fun K "number_of_way" "number_of_way" s_number_of_way f fd) (B : Bu K mg) (XC : Xc K mg aP aR aS aW aN aF) (C_need_way : Cal1 P w K mg base "need_way" 3 ["thing"] (spNeedWay1 aW)) (C_need_signs : Cal1 P w K mg base "need_signs" 2 ["thing"] (spNeedSigns1 aS)) (C_has_signs_among : Cal P w K mg base "has_signs_among" 22 ["way", "signs"] spHas) (C_list_numbers : Cal P w K mg base "list_numbers" 21 ["way"] (spNums 20)) (C_counts_up_to : Cal P w K mg base "counts_up_to" 2 ["signs", "many"] spCts) (C_number_at : Cal P w K mg base "number_at" 31 ["way", "signs", "counts"] (spNat 9)) : FnOk P w K mg base (CX1 P w) 32 f fd ["way", "signs"] (spNow1 aW aS aF) := by
  refine Fun.ok1 F sc_number_of_way (fun vs H Q E h => ?_) (fun cdv A outer s H vs Q E hr h => ?_)
  · obtain ⟨d, v, e, u, rfl, _⟩ := h
    rfl
  obtain ⟨d, v, e, u, rfl, hd, he, q1, q2⟩ := h
  refine ⟨_, (@pss_cons _ _ _ _ _ (@ps_expr _ _ _ _ (@pe_cal1 _ _ _ _ _ _ _ _ _ _ _ _ C_need_way pass1 hr (by omega) rfl (@pa_cons _ _ _ _ _ (@pv _ 0 _ _ (by rfl) (by first | exact Or.inl rfl | exact Or.inr ( Or.inl rfl ) | exact Or.inr ( Or.inr rfl )) (by decide) (by decide)) pa_nil (by rfl)) (by decide) (by rfl) (by rfl)) (by rfl)) (@pss_cons _ _ _ _ _ (@ps_expr _ _ _ _ (@pe_cal1 _ _ _ _ _ _ _ _ _ _ _ _ C_need_signs pass1 hr (by omega) rfl (@pa_cons _ _ _ _ _ (@pv _ 1 _ _ (by rfl) (by first | exact Or.inl rfl | exact Or.inr ( Or.inl rfl ) | exact Or.inr ( Or.inr rfl )) (by decide) (by decide)) pa_nil (by rfl)) (by decide) (by rfl) (by rfl)) (by rfl)) (@pss_cons _ _ _ _ _ (@ps_if _ _ _ _ _ _ _ _ (@pt_not _ _ _ _ (@pt_val _ _ _ (@pe_cal _ _ _ _ _ _ _ _ _ _ _ C_has_signs_among hr (by omega) rfl (@pa_cons _ _ _ _ _ (@pv _ 0 _ _ (by rfl) (by first | exact Or.inl rfl | exact Or.inr ( Or.inl rfl ) | exact Or.inr ( Or.inr rfl )) (by decide) (by decide)) (@pa_cons _ _ _ _ _ (@pv _ 1 _ _ (by rfl) (by first | exact Or.inl rfl | exact Or.inr ( Or.inl rfl ) | exact Or.inr ( Or.inr rfl )) (by decide) (by decide)) pa_nil (by rfl)) (by rfl)) (by decide) (by rfl) (by rfl)) (by intro _; rfl))) (@pss_one _ _ _ (@ps_raise _ _ _ _ _ _ _ _ _ _ rz1 XC.eNoFit rfl rfl XC.mNoFit (by rfl) (by decide))) pss_nil) (@pss_cons _ _ _ _ _ (@ps_set _ _ (2) _ _ _ _ (sc_number_of_way).nd rfl (Or.inl rfl) (@pe_cal _ _ _ _ _ _ _ _ _ _ _ C_counts_up_to hr (by omega) rfl (@pa_cons _ _ _ _ _ (@pv _ 1 _ _ (by rfl) (by first | exact Or.inl rfl | exact Or.inr ( Or.inl rfl ) | exact Or.inr ( Or.inr rfl )) (by decide) (by decide)) (@pa_cons _ _ _ _ _ (@pe_callB _ _ _ _ _ _ _ _ _ call_len_seq rfl B.ilen PySem.boot_len (@pa_cons _ _ _ _ _ (@pe_cal _ _ _ _ _ _ _ _ _ _ _ C_list_numbers hr (by omega) rfl (@pa_cons _ _ _ _ _ (@pv _ 0 _ _ (by rfl) (by first | exact Or.inl rfl | exact Or.inr ( Or.inl rfl ) | exact Or.inr ( Or.inr rfl )) (by decide) (by decide)) pa_nil (by rfl)) (by decide) (by rfl) (by rfl)) pa_nil (by rfl)) (by decide) (by decide) (by rfl) (by rfl)) pa_nil (by rfl)) (by rfl)) (by decide) (by rfl) (by rfl)) (by rfl) (by first | exact .inl rfl | exact .inr rfl | assumption)) (@pss_one _ _ _ (@ps_ret _ _ _ _ (@pe_cal _ _ _ _ _ _ _ _ _ _ _ C_number_at hr (by omega) rfl (@pa_cons _ _ _ _ _ (@pv _ 0 _ _ (by rfl) (by first | exact Or.inl rfl | exact Or.inr ( Or.inl rfl ) | exact Or.inr ( Or.inr rfl )) (by decide) (by decide)) (@pa_cons _ _ _ _ _ (@pv _ 1 _ _ (by rfl) (by first | exact Or.inl rfl | exact Or.inr ( Or.inl rfl ) | exact Or.inr ( Or.inr rfl )) (by decide) (by decide)) (@pa_cons _ _ _ _ _ (@pv _ 2 _ _ (by rfl) (by first | exact Or.inl rfl | exact Or.inr ( Or.inl rfl ) | exact Or.inr ( Or.inr rfl )) (by decide) (by decide)) pa_nil (by rfl)) (by rfl)) (by rfl)) (by decide) (by rfl) (by rfl)))))))), ?_⟩
  refine ⟨_, rfl, d, v, rfl, hd, fun c H1 g1 => ?_, q1⟩
  obtain ⟨q3, q4⟩ := q2 c
  refine ⟨_, rfl, e, u, rfl, Dat.mono g1 e u he, fun c2 => ?_, fun c2 => q3 c2 H1 g1⟩
  obtain ⟨z, rfl⟩ := sgs_str c2
  have eu : u = .str z := by simpa only [Dat] using he
  subst eu
  obtain ⟨wy, hw, h9, q5, q6⟩ := q4 c2 z rfl
  obtain ⟨z1, z3⟩ := seven_len c2
  have dl := wy.deep_le
  have zp := wy.size_pos
  refine ⟨_, rfl, _, rfl, wy, v, z, rfl, hw.mono (Tups.of g1), by omega, fun H2 g2 => ?_⟩
  have G2 := g1.trans g2
  cases c3 : wy.sgs.all fun g => hasS z g.str with
  | false => exact ⟨false, rfl, iteT (q5 c3 H2 G2)⟩
  | true =>
    refine ⟨true, rfl, iteF ?_⟩
    refine ⟨_, rfl, _, rfl, wy, v, rfl, hw.mono (Tups.of G2), by omega, by omega, fun p3 H3 g3 n3 e3 => ⟨p3, _, rfl, .inl (SqL.of e3), ?_⟩⟩
    rw [List.length_map, wy.nums_len]
    have G3 := G2.trans g3
    refine ⟨z, _, rfl, z3, by omega, by omega, fun p4 H4 g4 n4 e4 => ?_⟩
    have G4 := G3.trans g4
    have e8 : ((wy.size : Int) - 1).toNat = wy.size - 1 := by omega
    rw [e8] at e4
    exact ⟨_, rfl, _, rfl, _, rfl, wy, v, z, p4, wy.size - 1, rfl, hw.mono (Tups.of G4), z3, e4, by omega, by omega, by omega, fun g hg => (List.all_eq_true.mp c3) g hg, fun y H5 g5 => q6 c3 _ H5 (G4.trans g5)⟩
end
end Put
set_option Elab.async false
set_option linter.all false
set_option maxRecDepth 100000
set_option maxHeartbeats 2000000
namespace Put
open PySem L2
section
variable {P : Program} {w : World} {K : PySem.W.Frag} {mg : Str → Option Value} {base : Heap} {f : Addr} {fd : FuncData}
structure Xk (mg : Str → Option Value) (aR aS aW aN aL aF aO aA aH aT aM : Addr) : Prop where
  mNoRow : mg "NoRow" = some (.ref aR)
  mNoSigns : mg "NoSigns" = some (.ref aS)
  mNoWay : mg "NoWay" = some (.ref aW)
  mNoNumber : mg "NoNumber" = some (.ref aN)
  mNoPlace : mg "NoPlace" = some (.ref aL)
  mNoFit : mg "NoFit" = some (.ref aF)
  mNoForm : mg "NoForm" = some (.ref aO)
  mNoAsk : mg "NoAsk" = some (.ref aA)
  mNoHolds : mg "NoHolds" = some (.ref aH)
  mNoText : mg "NoText" = some (.ref aT)
  mTooMany : mg "TooMany" = some (.ref aM)
  iValueError : mg "ValueError" = none
structure Kd (K : PySem.W.Frag) (aR aS aW aN aL aF aO aA aH aT aM C : Addr) (j : Nat) : Prop where
  ex : ExC K C
  lt : j < 7
  k0 : PySem.W.kitOne K (.ref C) (.ref aR) = some (decide (j = 0))
  k1 : PySem.W.kitOne K (.ref C) (.ref aS) = some (decide (j = 1))
  k2 : PySem.W.kitOne K (.ref C) (.ref aW) = some (decide (j = 2))
  k3 : PySem.W.kitOne K (.ref C) (.ref aN) = some (decide (j = 3))
  k4 : PySem.W.kitOne K (.ref C) (.ref aL) = some (decide (j = 4))
  k5 : PySem.W.kitOne K (.ref C) (.ref aF) = some (decide (j = 5))
  k6 : PySem.W.kitOne K (.ref C) (.ref aO) = some (decide (j = 6))
  ka : PySem.W.kitAny K (.ref C) [.ref aA, .ref aH, .ref aT, .ref aM] = some false
  kv : PySem.W.kitOne K (.ref C) (.type "ValueError") = some true
def kdNames : List V := [.str "NoRow", .str "NoSigns", .str "NoWay", .str "NoNumber", .str "NoPlace", .str "NoFit", .str "NoForm"]
def kdBs (j : Nat) : List Bool := [decide (j = 0), decide (j = 1), decide (j = 2), decide (j = 3), decide (j = 4), decide (j = 5), decide (j = 6)]
def spKind (K : PySem.W.Frag) (aR aS aW aN aL aF aO aA aH aT aM : Addr) : Sp := fun vs H Q _ => ∃ ea C j nm, vs = [.ref ea] ∧ H ea = some (excV ea C) ∧ Kd K aR aS aW aN aL aF aO aA aH aT aM C j ∧ kdNames[j]? = some nm ∧ ∀ H', Same H H' → Q nm H'
theorem kd_count {j : Nat} (h : j < 7) : (kdBs j).countP id = 1 := by
  match j, h with
  | 0, _ => rfl
  | 1, _ => rfl
  | 2, _ => rfl
  | 3, _ => rfl
  | 4, _ => rfl
  | 5, _ => rfl
  | 6, _ => rfl
theorem kd_at {j : Nat} (h : j < 7) : (kdBs j)[j]? = some true ∧ ∀ m, m < j → (kdBs j)[m]? = some false := by
  match j, h with
  | 0, _ => exact ⟨rfl, fun m hm => absurd hm (by omega)⟩
  | 1, _ => exact ⟨rfl, by decide⟩
  | 2, _ => exact ⟨rfl, by decide⟩
  | 3, _ => exact ⟨rfl, by decide⟩
  | 4, _ => exact ⟨rfl, by decide⟩
  | 5, _ => exact ⟨rfl, by decide⟩
  | 6, _ => exact ⟨rfl, by decide⟩
abbrev s__law_kind : Stmt := top 58
theorem sc__law_kind : FnScope ["caught", "names", "kinds", "odd"] ["caught"] (defScope s__law_kind) := ⟨rfl, rfl, rfl, by decide +kernel, rfl, by decide +kernel, by decide +kernel⟩
theorem ok_kind {aR aS aW aN aL aF aO aA aH aT aM : Addr} (F : Fun K "_law_kind" "_law_kind" s__law_kind f fd) (B : Bu K mg) (XK : Xk mg aR aS aW aN aL aF aO aA aH aT aM) : FnOk P w K mg base CX0 1 f fd ["caught"] (spKind K aR aS aW aN aL aF aO aA aH aT aM) := by
  refine F.ok sc__law_kind (fun vs H Q E h => ?_) (fun cdv A outer s H vs Q E hr h => ?_)
  · obtain ⟨ea, C, j, nm, rfl, _⟩ := h
    rfl
  obtain ⟨ea, C, j, nm, rfl, he, kd, hn, q⟩ := h
  refine ⟨_, (@pss_cons _ _ _ _ _ (@ps_set _ _ (1) _ _ _ _ (sc__law_kind).nd rfl (Or.inl rfl) (@pe_lst _ _ _ _ (@pa_cons _ _ _ _ _ pe_str (@pa_cons _ _ _ _ _ pe_str (@pa_cons _ _ _ _ _ pe_str (@pa_cons _ _ _ _ _ pe_str (@pa_cons _ _ _ _ _ pe_str (@pa_cons _ _ _ _ _ pe_str (@pa_cons _ _ _ _ _ pe_str pa_nil (by rfl)) (by rfl)) (by rfl)) (by rfl)) (by rfl)) (by rfl)) (by rfl))) (by rfl) (by first | exact .inl rfl | exact .inr rfl | assumption)) (@pss_cons _ _ _ _ _ (@ps_set _ _ (2) _ _ _ _ (sc__law_kind).nd rfl (Or.inl rfl) (@pe_lst _ _ _ _ (@pa_cons _ _ _ _ _ (@pe_callB _ _ _ _ _ _ _ _ _ call_isinstE rfl B.iisinstance PyProof.Rows.boot_isinstance (@pa_cons _ _ _ _ _ (@pv _ 0 _ _ (by rfl) (by first | exact Or.inl rfl | exact Or.inr ( Or.inl rfl ) | exact Or.inr ( Or.inr rfl )) (by decide) (by decide)) (@pa_cons _ _ _ _ _ (@pe_glob _ _ (.ref aR) _ _ rfl XK.mNoRow rfl (by decide)) pa_nil (by rfl)) (by rfl)) (by decide) (by decide) (by rfl) (by rfl)) (@pa_cons _ _ _ _ _ (@pe_callB _ _ _ _ _ _ _ _ _ call_isinstE rfl B.iisinstance PyProof.Rows.boot_isinstance (@pa_cons _ _ _ _ _ (@pv _ 0 _ _ (by rfl) (by first | exact Or.inl rfl | exact Or.inr ( Or.inl rfl ) | exact Or.inr ( Or.inr rfl )) (by decide) (by decide)) (@pa_cons _ _ _ _ _ (@pe_glob _ _ (.ref aS) _ _ rfl XK.mNoSigns rfl (by decide)) pa_nil (by rfl)) (by rfl)) (by decide) (by decide) (by rfl) (by rfl)) (@pa_cons _ _ _ _ _ (@pe_callB _ _ _ _ _ _ _ _ _ call_isinstE rfl B.iisinstance PyProof.Rows.boot_isinstance (@pa_cons _ _ _ _ _ (@pv _ 0 _ _ (by rfl) (by first | exact Or.inl rfl | exact Or.inr ( Or.inl rfl ) | exact Or.inr ( Or.inr rfl )) (by decide) (by decide)) (@pa_cons _ _ _ _ _ (@pe_glob _ _ (.ref aW) _ _ rfl XK.mNoWay rfl (by decide)) pa_nil (by rfl)) (by rfl)) (by decide) (by decide) (by rfl) (by rfl)) pa_nil (by rfl)) (by rfl)) (by rfl))) (by rfl) (by first | exact .inl rfl | exact .inr rfl | assumption)) (@pss_cons _ _ _ _ _ (@ps_set _ _ (2) _ _ _ _ (sc__law_kind).nd rfl (Or.inl rfl) (@pe_op _ _ _ _ _ _ _ _ op_cat (@pv _ 2 _ _ (by rfl) (by first | exact Or.inl rfl | exact Or.inr ( Or.inl rfl ) | exact Or.inr ( Or.inr rfl )) (by decide) (by decide)) (@pe_lst _ _ _ _ (@pa_cons _ _ _ _ _ (@pe_callB _ _ _ _ _ _ _ _ _ call_isinstE rfl B.iisinstance PyProof.Rows.boot_isinstance (@pa_cons _ _ _ _ _ (@pv _ 0 _ _ (by rfl) (by first | exact Or.inl rfl | exact Or.inr ( Or.inl rfl ) | exact Or.inr ( Or.inr rfl )) (by decide) (by decide)) (@pa_cons _ _ _ _ _ (@pe_glob _ _ (.ref aN) _ _ rfl XK.mNoNumber rfl (by decide)) pa_nil (by rfl)) (by rfl)) (by decide) (by decide) (by rfl) (by rfl)) (@pa_cons _ _ _ _ _ (@pe_callB _ _ _ _ _ _ _ _ _ call_isinstE rfl B.iisinstance PyProof.Rows.boot_isinstance (@pa_cons _ _ _ _ _ (@pv _ 0 _ _ (by rfl) (by first | exact Or.inl rfl | exact Or.inr ( Or.inl rfl ) | exact Or.inr ( Or.inr rfl )) (by decide) (by decide)) (@pa_cons _ _ _ _ _ (@pe_glob _ _ (.ref aL) _ _ rfl XK.mNoPlace rfl (by decide)) pa_nil (by rfl)) (by rfl)) (by decide) (by decide) (by rfl) (by rfl)) (@pa_cons _ _ _ _ _ (@pe_callB _ _ _ _ _ _ _ _ _ call_isinstE rfl B.iisinstance PyProof.Rows.boot_isinstance (@pa_cons _ _ _ _ _ (@pv _ 0 _ _ (by rfl) (by first | exact Or.inl rfl | exact Or.inr ( Or.inl rfl ) | exact Or.inr ( Or.inr rfl )) (by decide) (by decide)) (@pa_cons _ _ _ _ _ (@pe_glob _ _ (.ref aF) _ _ rfl XK.mNoFit rfl (by decide)) pa_nil (by rfl)) (by rfl)) (by decide) (by decide) (by rfl) (by rfl)) pa_nil (by rfl)) (by rfl)) (by rfl)))) (by rfl) (by first | exact .inl rfl | exact .inr rfl | assumption)) (@pss_cons _ _ _ _ _ (@ps_expr _ _ _ _ (@pe_bm _ _ _ _ _ _ _ _ _ _ _ _ PySem.F.plainAttrs_list PySem.F.slot_list_append PySem.F.type_list_append mt_append (@pv _ 2 _ _ (by rfl) (by first | exact Or.inl rfl | exact Or.inr ( Or.inl rfl ) | exact Or.inr ( Or.inr rfl )) (by decide) (by decide)) (@pa_cons _ _ _ _ _ (@pe_callB _ _ _ _ _ _ _ _ _ call_isinstE rfl B.iisinstance PyProof.Rows.boot_isinstance (@pa_cons _ _ _ _ _ (@pv _ 0 _ _ (by rfl) (by first | exact Or.inl rfl | exact Or.inr ( Or.inl rfl ) | exact Or.inr ( Or.inr rfl )) (by decide) (by decide)) (@pa_cons _ _ _ _ _ (@pe_glob _ _ (.ref aO) _ _ rfl XK.mNoForm rfl (by decide)) pa_nil (by rfl)) (by rfl)) (by decide) (by decide) (by rfl) (by rfl)) pa_nil (by rfl)) (by rfl) (by rfl) (by rfl) (by rfl) (by rfl)) (by rfl)) (@pss_cons _ _ _ _ _ (@ps_set _ _ (3) _ _ _ _ (sc__law_kind).nd rfl (Or.inl rfl) (@pe_callB _ _ _ _ _ _ _ _ _ call_isinstEs rfl B.iisinstance PyProof.Rows.boot_isinstance (@pa_cons _ _ _ _ _ (@pv _ 0 _ _ (by rfl) (by first | exact Or.inl rfl | exact Or.inr ( Or.inl rfl ) | exact Or.inr ( Or.inr rfl )) (by decide) (by decide)) (@pa_cons _ _ _ _ _ (@pe_tup _ _ _ _ _ (@pa_cons _ _ _ _ _ (@pe_glob _ _ (.ref aA) _ _ rfl XK.mNoAsk rfl (by decide)) (@pa_cons _ _ _ _ _ (@pe_glob _ _ (.ref aH) _ _ rfl XK.mNoHolds rfl (by decide)) (@pa_cons _ _ _ _ _ (@pe_glob _ _ (.ref aT) _ _ rfl XK.mNoText rfl (by decide)) (@pa_cons _ _ _ _ _ (@pe_glob _ _ (.ref aM) _ _ rfl XK.mTooMany rfl (by decide)) pa_nil (by rfl)) (by rfl)) (by rfl)) (by rfl))) pa_nil (by rfl)) (by rfl)) (by decide) (by decide) (by rfl) (by rfl)) (by rfl) (by first | exact .inl rfl | exact .inr rfl | assumption)) (@pss_cons _ _ _ _ _ (@ps_if _ _ _ _ _ _ _ _ (@PW.pt _ _ _ (@pw_or _ _ _ _ _ _ _ (@pt_truth _ _ _ (@pv _ 3 _ _ (by rfl) (by first | exact Or.inl rfl | exact Or.inr ( Or.inl rfl ) | exact Or.inr ( Or.inr rfl )) (by decide) (by decide)) (fun _ => rfl)) (@pw_or _ _ _ _ _ _ _ (@pt_not _ _ _ _ (@pt_val _ _ _ (@pe_callB _ _ _ _ _ _ _ _ _ call_isinstE rfl B.iisinstance PyProof.Rows.boot_isinstance (@pa_cons _ _ _ _ _ (@pv _ 0 _ _ (by rfl) (by first | exact Or.inl rfl | exact Or.inr ( Or.inl rfl ) | exact Or.inr ( Or.inr rfl )) (by decide) (by decide)) (@pa_cons _ _ _ _ _ (@pe_bltn _ _ (.ty "ValueError") _ _ rfl XK.iValueError (by decide +kernel) rfl (by decide) (by decide)) pa_nil (by rfl)) (by rfl)) (by decide) (by decide) (by rfl) (by rfl)) (by intro _; rfl))) (@pw_or1 _ _ _ _ (@pt_cmpR _ _ _ _ _ _ _ _ op_ne (@pe_bm _ _ _ _ _ _ _ _ _ _ _ _ PySem.F.plainAttrs_list PySem.F.slot_list_count PySem.F.type_list_count (@mt_countB _ hr.units) (@pv _ 2 _ _ (by rfl) (by first | exact Or.inl rfl | exact Or.inr ( Or.inl rfl ) | exact Or.inr ( Or.inr rfl )) (by decide) (by decide)) (@pa_cons _ _ _ _ _ pe_bl pa_nil (by rfl)) (by rfl) (by rfl) (by rfl) (by rfl) (by rfl)) pe_int (nomark _)))))) (@pss_one _ _ _ (@ps_ret _ _ _ _ pe_str)) pss_nil) (@pss_one _ _ _ (@ps_ret _ _ _ _ (@pe_ix _ _ _ _ _ _ _ ix_list (@pv _ 1 _ _ (by rfl) (by first | exact Or.inl rfl | exact Or.inr ( Or.inl rfl ) | exact Or.inr ( Or.inr rfl )) (by decide) (by decide)) (@pe_bm _ _ _ _ _ _ _ _ _ _ _ _ PySem.F.plainAttrs_list PySem.F.slot_list_index PySem.F.type_list_index (@mt_indexB _ hr.units) (@pv _ 2 _ _ (by rfl) (by first | exact Or.inl rfl | exact Or.inr ( Or.inl rfl ) | exact Or.inr ( Or.inr rfl )) (by decide) (by decide)) (@pa_cons _ _ _ _ _ pe_bl pa_nil (by rfl)) (by rfl) (by rfl) (by rfl) (by rfl) (by rfl)) (fun _ _ => rfl)))))))))), ?_⟩
  refine ⟨(by show 7 ≤ sizeLine; decide), fun pn nn => ?_⟩
  have g1 := Same.new nn (.lst kdNames)
  have e1 := g1 _ _ he
  refine ⟨_, rfl, ea, C, _, _, _, rfl, e1, kd.ex, fun _ z => z, kd.k0, _, rfl, ea, C, _, _, _, rfl, e1, kd.ex, fun _ z => z, kd.k1, _, rfl, ea, C, _, _, _, rfl, e1, kd.ex, fun _ z => z, kd.k2, (by show 3 ≤ sizeLine; decide), fun pk nk => ?_⟩
  have g2 := Same.new nk (.lst [.bl (decide (j = 0)), .bl (decide (j = 1)), .bl (decide (j = 2))])
  have e2 := g2 _ _ e1
  refine ⟨_, rfl, _, rfl, ea, C, _, _, _, rfl, e2, kd.ex, fun _ z => z, kd.k3, _, rfl, ea, C, _, _, _, rfl, e2, kd.ex, fun _ z => z, kd.k4, _, rfl, ea, C, _, _, _, rfl, e2, kd.ex, fun _ z => z, kd.k5, (by show 3 ≤ sizeLine; decide), fun pl nl => ?_⟩
  have g3 := Same.new nl (.lst [.bl (decide (j = 3)), .bl (decide (j = 4)), .bl (decide (j = 5))])
  refine ⟨pk, pl, _, _, rfl, rfl, g3 _ _ upd_same, upd_same, (by show 6 ≤ sizeLine; decide), fun pm nm' => ?_⟩
  have g4 := Same.new nm' (.lst ([.bl (decide (j = 0)), .bl (decide (j = 1)), .bl (decide (j = 2))] ++ [.bl (decide (j = 3)), .bl (decide (j = 4)), .bl (decide (j = 5))]))
  have e4 := g4 _ _ (g3 _ _ e2)
  have ek : upd (upd (upd (upd H pn (.lst kdNames)) pk (.lst [.bl (decide (j = 0)), .bl (decide (j = 1)), .bl (decide (j = 2))])) pl (.lst [.bl (decide (j = 3)), .bl (decide (j = 4)), .bl (decide (j = 5))])) pm (.lst ([.bl (decide (j = 0)), .bl (decide (j = 1)), .bl (decide (j = 2))] ++ [.bl (decide (j = 3)), .bl (decide (j = 4)), .bl (decide (j = 5))])) pm = some (.lst [.bl (decide (j = 0)), .bl (decide (j = 1)), .bl (decide (j = 2)), .bl (decide (j = 3)), .bl (decide (j = 4)), .bl (decide (j = 5))]) := upd_same
  have en := (g2.trans (g3.trans g4)) _ _ (upd_same (H := H) (a := pn) (o := .lst kdNames))
  have nm0 : H pm = none := (g1.trans (g2.trans g3)).free nm'
  have pne : pn ≠ pm := ne_of_none ((g2.trans g3) _ _ (upd_same (H := H) (a := pn) (o := .lst kdNames))) nm'
  have eane : ea ≠ pm := ne_of_none he nm0
  have G4 := g1.trans (g2.trans (g3.trans g4))
  refine ⟨_, rfl, .inl ⟨rfl, _, SqL.of ek⟩, _, rfl, ea, C, _, _, _, rfl, e4, kd.ex, fun _ z => z, kd.k6, pm, _, _, rfl, rfl, ek, (by show 6 < sizeLine; decide), ?_⟩
  have x5 : ∀ b o, b ≠ pm → upd (upd (upd (upd H pn (.lst kdNames)) pk (.lst [.bl (decide (j = 0)), .bl (decide (j = 1)), .bl (decide (j = 2))])) pl (.lst [.bl (decide (j = 3)), .bl (decide (j = 4)), .bl (decide (j = 5))])) pm (.lst ([.bl (decide (j = 0)), .bl (decide (j = 1)), .bl (decide (j = 2))] ++ [.bl (decide (j = 3)), .bl (decide (j = 4)), .bl (decide (j = 5))])) b = some o →
      upd (upd (upd (upd (upd H pn (.lst kdNames)) pk (.lst [.bl (decide (j = 0)), .bl (decide (j = 1)), .bl (decide (j = 2))])) pl (.lst [.bl (decide (j = 3)), .bl (decide (j = 4)), .bl (decide (j = 5))])) pm (.lst ([.bl (decide (j = 0)), .bl (decide (j = 1)), .bl (decide (j = 2))] ++ [.bl (decide (j = 3)), .bl (decide (j = 4)), .bl (decide (j = 5))]))) pm (.lst ((kdBs j).map V.bl)) b = some o := fun b o hb z => by rw [upd_ne hb]; exact z
  have G5 := G4.upd (o := .lst ((kdBs j).map V.bl)) nm0
  have e5 := x5 _ _ eane e4
  have en5 := x5 _ _ pne en
  refine ⟨_, rfl, (by show 4 ≤ sizeLine; decide), fun pt nt => ?_⟩
  have g6 := Same.new nt (.tup [.ref aA, .ref aH, .ref aT, .ref aM])
  refine ⟨ea, C, pt, _, [.ref aA, .ref aH, .ref aT, .ref aM], false, rfl, g6 _ _ e5, upd_same, kd.ex, fun us' r => ?_, kd.ka, ?_⟩
  · cases r with
    | cons a r => cases r with
      | cons b r => cases r with
        | cons c r => cases r with
          | cons d r => cases r; cases a; cases b; cases c; cases d; rfl
  have e6 := g6 _ _ e5
  have ek6 := g6 pm (.lst ((kdBs j).map V.bl)) upd_same
  have en6 := g6 _ _ en5
  refine ⟨_, rfl, false, (by first | rfl | exact .bl _ | exact .inl rfl), iteF ?_⟩
  refine ⟨_, rfl, ea, C, _, _, _, rfl, e6, kd.ex, fun _ z => z, kd.kv, true, rfl, iteF ?_⟩
  refine ⟨_, rfl, .inl ⟨rfl, _, SqL.of ek6⟩, pm, kdBs j, rfl, rfl, SqL.of ek6, ?_⟩
  rw [kd_count kd.lt]
  refine ⟨rfl, _, rfl, iteNS rfl ?_⟩
  obtain ⟨k1, k2⟩ := kd_at kd.lt
  refine ⟨_, rfl, _, rfl, .inl ⟨rfl, _, SqL.of ek6⟩, pm, kdBs j, j, rfl, rfl, SqL.of ek6, k1, k2, (by show 7 ≤ 1000; decide), ?_⟩
  exact ⟨pn, _, _, nm, rfl, rfl, SqL.of en6, atI_nat hn, q _ (G5.trans g6)⟩
end
end Put
set_option Elab.async false
set_option linter.all false
set_option maxRecDepth 100000
set_option maxHeartbeats 2000000
namespace Put
open PySem L2
def wh3 (lo hi : Int) : PyData → Bool
  | .int i => decide (lo ≤ i) && decide (i ≤ hi)
  | _ => false
mutual
def sgA (p : Str → Bool) : PyData → Bool
  | .tuple ds => sgAT p ds
  | .none => true
  | .bool _ => true
  | .int _ => true
  | .str _ => true
  | .list _ => true
  | .dict _ => true
def sgAT (p : Str → Bool) : List PyData → Bool
  | [] => true
  | [_] => true
  | [_, _] => true
  | [s, l, r] => (match s with | .str z => p z | _ => true) && sgA p l && sgA p r
  | _ :: _ :: _ :: _ :: _ => true
end
theorem sgA_wy (p : Str → Bool) : ∀ wy : Wy, sgA p (wyDat wy) = wy.sgs.all fun g => p g.str
  | .num i => by simp [wyDat, sgA, Wy.sgs]
  | .node g l r => by
    simp only [wyDat, sgA, sgAT, Wy.sgs, List.all_append, List.all_cons, sgA_wy p l, sgA_wy p r]
    cases p g.str <;> cases (l.sgs.all fun g => p g.str) <;> simp
theorem sg_of {z : Str} (h : isSg z = true) : ∃ g : Sg, z = g.str := by
  have h' : inV (.str z) [.str "+", .str "-", .str "*"] = true := h
  by_cases c1 : z = "+"
  · exact ⟨.plus, c1⟩
  by_cases c2 : z = "-"
  · exact ⟨.minus, c2⟩
  by_cases c3 : z = "*"
  · exact ⟨.times, c3⟩
  exfalso
  revert h'
  simp [inV, eqV, Ne.symm c1, Ne.symm c2, Ne.symm c3]
theorem cnt_way : ∀ (d : PyData) (n : Nat) (H : Hp) (v : V), cntD d = some n → Dat H d v → OkD d → ∃ wy : Wy, WyIn H wy v ∧ wy.size = n ∧ wy.Sm ∧ d = wyDat wy
  | .int i, n, H, v, h, hd, ok => by
    simp only [cntD, Option.some.injEq] at h
    simp only [Dat] at hd
    simp only [OkD] at ok
    refine ⟨.num i, hd, h, fun j hj => ?_, rfl⟩
    rw [List.mem_singleton.mp hj]; exact ok
  | .tuple ds, n, H, v, h, hd, ok => by
    simp only [cntD] at h
    match ds, h, hd, ok with
    | [], h, _, _ => simp [cntT] at h
    | [_], h, _, _ => simp [cntT] at h
    | [_, _], h, _, _ => simp [cntT] at h
    | [s, l, r], h, hd, ok =>
      simp only [cntT] at h
      simp only [OkD, OkAll] at ok
      simp only [Dat] at hd
      obtain ⟨a, xs, rfl, ha, hx⟩ := hd
      obtain ⟨_, _, _, x, y, z, e1, rfl, h1, h2, h3⟩ := dat3 hx (by rw [← hx.len]; rfl)
      injection e1 with e1 e2; injection e2 with e2 e3; injection e3 with e3 e4
      subst e1 e2 e3
      by_cases hs : sgD s = true
      · rw [if_pos hs] at h
        cases c1 : cntD l with
        | none => rw [c1] at h; cases h
        | some m =>
          cases c2 : cntD r with
          | none => rw [c1, c2] at h; cases h
          | some k =>
            rw [c1, c2] at h
            injection h with h
            obtain ⟨wl, w1, w2, w3, w4⟩ := cnt_way l m H y c1 h2 ok.2.1
            obtain ⟨wr, u1, u2, u3, u4⟩ := cnt_way r k H z c2 h3 ok.2.2.1
            cases s with
            | str zs =>
              obtain ⟨g, rfl⟩ := sg_of (show isSg zs = true from hs)
              simp only [Dat] at h1
              subst h1
              refine ⟨.node g wl wr, ⟨a, y, z, rfl, ha, w1, u1⟩, by show wl.size + wr.size = n; omega, fun i hi => ?_, by simp only [wyDat, ← w4, ← u4]⟩
              rcases List.mem_append.mp hi with hi | hi
              · exact w3 i hi
              · exact u3 i hi
            | _ => exact absurd hs (by simp [sgD])
      · rw [if_neg hs] at h; cases h
    | _ :: _ :: _ :: _ :: _, h, _, _ => simp [cntT] at h
  | .none, n, H, v, h, _, _ => by simp [cntD] at h
  | .bool _, n, H, v, h, _, _ => by simp [cntD] at h
  | .str _, n, H, v, h, _, _ => by simp [cntD] at h
  | .list _, n, H, v, h, _, _ => by simp [cntD] at h
  | .dict _, n, H, v, h, _, _ => by simp [cntD] at h
theorem way_in {d : PyData} {H : Hp} {v : V} (h : isWayD d = true) (hd : Dat H d v) (ok : OkD d) : ∃ wy : Wy, WyIn H wy v ∧ wy.size ≤ 9 ∧ d = wyDat wy := by
  unfold isWayD at h
  cases e : cntD d with
  | none => rw [e] at h; cases h
  | some n =>
    rw [e] at h
    have h9 : n ≤ 9 := of_decide_eq_true h
    obtain ⟨wy, w1, w2, w3, w4⟩ := cnt_way d n H v e hd ok
    exact ⟨wy, w1, by omega, w4⟩
section
variable {P : Program} {w : World} {K : PySem.W.Frag} {mg : Str → Option Value} {base : Heap} {f : Addr} {fd : FuncData}
def spLWhole3 : Sp := fun vs H Q _ => ∃ d v lo hi, vs = [v, .int lo, .int hi] ∧ Dat H d v ∧ Q (.bl (wh3 lo hi d)) H
abbrev s__law_whole : Stmt := top 59
theorem sc__law_whole : FnScope ["thing", "low", "high"] ["thing", "low", "high"] (defScope s__law_whole) := ⟨rfl, rfl, rfl, by decide +kernel, rfl, by decide +kernel, by decide +kernel⟩
theorem ok_law_whole (F : Fun K "_law_whole" "_law_whole" s__law_whole f fd) (B : Bu K mg) : FnOk P w K mg base CX0 1 f fd ["thing", "low", "high"] spLWhole3 := by
  refine F.ok sc__law_whole (fun vs H Q E h => ?_) (fun cdv A outer s H vs Q E hr h => ?_)
  · obtain ⟨d, v, lo, hi, rfl, _⟩ := h
    rfl
  obtain ⟨d, v, lo, hi, rfl, hd, q⟩ := h
  refine ⟨_, (@pss_one _ _ _ (@ps_ret _ _ _ _ (@pe_and _ _ _ _ _ _ _ (@pe_callB _ _ _ _ _ _ _ _ _ (@call_isinst _ ("int")) rfl B.iisinstance PyProof.Rows.boot_isinstance (@pa_cons _ _ _ _ _ (@pv _ 0 _ _ (by rfl) (by first | exact Or.inl rfl | exact Or.inr ( Or.inl rfl ) | exact Or.inr ( Or.inr rfl )) (by decide) (by decide)) (@pa_cons _ _ _ _ _ (@pe_bltn _ _ (.ty "int") _ _ rfl B.iint PyProof.Rows.boot_int rfl (by decide) (by decide)) pa_nil (by rfl)) (by rfl)) (by decide) (by decide) (by rfl) (by rfl)) (@pe_and _ _ _ _ _ _ _ (@pe_not _ _ _ _ (@pe_callB _ _ _ _ _ _ _ _ _ (@call_isinst _ ("bool")) rfl B.iisinstance PyProof.Rows.boot_isinstance (@pa_cons _ _ _ _ _ (@pv _ 0 _ _ (by rfl) (by first | exact Or.inl rfl | exact Or.inr ( Or.inl rfl ) | exact Or.inr ( Or.inr rfl )) (by decide) (by decide)) (@pa_cons _ _ _ _ _ (@pe_bltn _ _ (.ty "bool") _ _ rfl B.ibool PyProof.Rows.boot_bool rfl (by decide) (by decide)) pa_nil (by rfl)) (by rfl)) (by decide) (by decide) (by rfl) (by rfl))) (@pe_one _ _ _ _ _ (@pe_chain _ _ _ _ _ _ _ _ _ _ _ _ op_le op_le (@pv _ 1 _ _ (by rfl) (by first | exact Or.inl rfl | exact Or.inr ( Or.inl rfl ) | exact Or.inr ( Or.inr rfl )) (by decide) (by decide)) (@pv _ 0 _ _ (by rfl) (by first | exact Or.inl rfl | exact Or.inr ( Or.inl rfl ) | exact Or.inr ( Or.inr rfl )) (by decide) (by decide)) (@pv _ 2 _ _ (by rfl) (by first | exact Or.inl rfl | exact Or.inr ( Or.inl rfl ) | exact Or.inr ( Or.inr rfl )) (by decide) (by decide)) (by with_unfolding_all rfl))))))), ?_⟩
  cases d with
  | int i =>
    have e : v = .int i := by simpa only [Dat] using hd
    subst e
    refine ⟨_, rfl, _, _, true, rfl, .int i, rfl, true, rfl, iteT ⟨_, rfl, _, _, false, rfl, .int i, rfl, false, rfl, true, rfl, iteT ?_⟩⟩
    by_cases c : lo ≤ i
    · refine ⟨_, rfl, _, rfl, _, _, rfl, rfl, true, congrArg V.bl (decide_eq_true c), iteT ⟨_, rfl, _, _, rfl, rfl, ?_⟩⟩
      have : wh3 lo hi (.int i) = decide (i ≤ hi) := by show (decide (lo ≤ i) && decide (i ≤ hi)) = _; rw [decide_eq_true c]; rfl
      rw [this] at q; exact q
    · refine ⟨_, rfl, _, rfl, _, _, rfl, rfl, false, congrArg V.bl (decide_eq_false c), iteF ?_⟩
      have : wh3 lo hi (.int i) = false := by show (decide (lo ≤ i) && decide (i ≤ hi)) = _; rw [decide_eq_false c]; rfl
      rw [this] at q; exact q
  | bool b => exact ⟨_, rfl, _, _, true, rfl, hd.ty, rfl, true, rfl, iteT ⟨_, rfl, _, _, true, rfl, hd.ty, rfl, true, rfl, false, rfl, iteF q⟩⟩
  | none => exact ⟨_, rfl, _, _, false, rfl, hd.ty, rfl, false, rfl, iteF q⟩
  | str b => exact ⟨_, rfl, _, _, false, rfl, hd.ty, rfl, false, rfl, iteF q⟩
  | list b => exact ⟨_, rfl, _, _, false, rfl, hd.ty, rfl, false, rfl, iteF q⟩
  | tuple b => exact ⟨_, rfl, _, _, false, rfl, hd.ty, rfl, false, rfl, iteF q⟩
  | dict b => exact ⟨_, rfl, _, _, false, rfl, hd.ty, rfl, false, rfl, iteF q⟩
def spLIsSigns : Sp := fun vs H Q _ => ∃ d v, vs = [v] ∧ Dat H d v ∧ ∀ H', Same H H' → Q (.bl (isSgsD d)) H'
abbrev s__law_is_signs : Stmt := top 61
theorem sc__law_is_signs : FnScope ["thing"] ["thing"] (defScope s__law_is_signs) := ⟨rfl, rfl, rfl, by decide +kernel, rfl, by decide +kernel, by decide +kernel⟩
theorem ok_law_is_signs (F : Fun K "_law_is_signs" "_law_is_signs" s__law_is_signs f fd) (B : Bu K mg) : FnOk P w K mg base CX0 1 f fd ["thing"] spLIsSigns := by
  refine F.ok sc__law_is_signs (fun vs H Q E h => ?_) (fun cdv A outer s H vs Q E hr h => ?_)
  · obtain ⟨x, v, rfl, _⟩ := h
    rfl
  obtain ⟨d, v, rfl, hd, q⟩ := h
  refine ⟨_, (@pss_one _ _ _ (@ps_ret _ _ _ _ (@pe_and _ _ _ _ _ _ _ (@pe_callB _ _ _ _ _ _ _ _ _ (@call_isinst _ ("str")) rfl B.iisinstance PyProof.Rows.boot_isinstance (@pa_cons _ _ _ _ _ (@pv _ 0 _ _ (by rfl) (by first | exact Or.inl rfl | exact Or.inr ( Or.inl rfl ) | exact Or.inr ( Or.inr rfl )) (by decide) (by decide)) (@pa_cons _ _ _ _ _ (@pe_bltn _ _ (.ty "str") _ _ rfl B.istr PyProof.Rows.boot_str rfl (by decide) (by decide)) pa_nil (by rfl)) (by rfl)) (by decide) (by decide) (by rfl) (by rfl)) (@pe_one _ _ _ _ _ (@pe_cmpR _ _ _ _ _ _ _ _ op_in_seq (@pv _ 0 _ _ (by rfl) (by first | exact Or.inl rfl | exact Or.inr ( Or.inl rfl ) | exact Or.inr ( Or.inr rfl )) (by decide) (by decide)) (@pe_lst _ _ _ _ (@pa_cons _ _ _ _ _ pe_str (@pa_cons _ _ _ _ _ pe_str (@pa_cons _ _ _ _ _ pe_str (@pa_cons _ _ _ _ _ pe_str (@pa_cons _ _ _ _ _ pe_str (@pa_cons _ _ _ _ _ pe_str (@pa_cons _ _ _ _ _ pe_str pa_nil (by rfl)) (by rfl)) (by rfl)) (by rfl)) (by rfl)) (by rfl)) (by rfl))) (by with_unfolding_all rfl)))))), ?_⟩
  cases d with
  | str z =>
    have e : v = .str z := by simpa only [Dat] using hd
    subst e
    exact ⟨_, rfl, _, _, true, rfl, .str z, rfl, true, rfl, iteT ⟨_, rfl, (by show 7 ≤ sizeLine; decide), fun p np => ⟨p, _, rfl, .inl (SqL.of upd_same), rfl, rfl, q _ (Same.new np _)⟩⟩⟩
  | none => exact ⟨_, rfl, _, _, false, rfl, hd.ty, rfl, false, rfl, iteF (q _ (Same.refl _))⟩
  | bool b => exact ⟨_, rfl, _, _, false, rfl, hd.ty, rfl, false, rfl, iteF (q _ (Same.refl _))⟩
  | int b => exact ⟨_, rfl, _, _, false, rfl, hd.ty, rfl, false, rfl, iteF (q _ (Same.refl _))⟩
  | list b => exact ⟨_, rfl, _, _, false, rfl, hd.ty, rfl, false, rfl, iteF (q _ (Same.refl _))⟩
  | tuple b => exact ⟨_, rfl, _, _, false, rfl, hd.ty, rfl, false, rfl, iteF (q _ (Same.refl _))⟩
  | dict b => exact ⟨_, rfl, _, _, false, rfl, hd.ty, rfl, false, rfl, iteF (q _ (Same.refl _))⟩
abbrev s__law_is_row : Stmt := top 60
theorem sc__law_is_row : FnScope ["thing"] ["thing"] (defScope s__law_is_row) := ⟨rfl, rfl, rfl, by decide +kernel, rfl, by decide +kernel, by decide +kernel⟩
theorem ok_law_is_row (F : Fun K "_law_is_row" "_law_is_row" s__law_is_row f fd) (B : Bu K mg) : FnOk P w K mg base CX0 1 f fd ["thing"] spIsRow := by
  refine F.ok sc__law_is_row (fun vs H Q E h => ?_) (fun cdv A outer s H vs Q E hr h => ?_)
  · obtain ⟨x, v, rfl, _⟩ := h
    rfl
  obtain ⟨d, v, rfl, hd, q⟩ := h
  refine ⟨_, (@pss_cons _ _ _ _ _ (@ps_if _ _ _ _ _ _ _ _ (@PW.pt _ _ _ (@pw_or _ _ _ _ _ _ _ (@pt_not _ _ _ _ (@pt_val _ _ _ (@pe_callB _ _ _ _ _ _ _ _ _ (@call_isinst _ ("list")) rfl B.iisinstance PyProof.Rows.boot_isinstance (@pa_cons _ _ _ _ _ (@pv _ 0 _ _ (by rfl) (by first | exact Or.inl rfl | exact Or.inr ( Or.inl rfl ) | exact Or.inr ( Or.inr rfl )) (by decide) (by decide)) (@pa_cons _ _ _ _ _ (@pe_bltn _ _ (.ty "list") _ _ rfl B.ilist PyProof.Rows.boot_list rfl (by decide) (by decide)) pa_nil (by rfl)) (by rfl)) (by decide) (by decide) (by rfl) (by rfl)) (by intro _; rfl))) (@pw_or1 _ _ _ _ (@pt_not _ _ _ _ (@pt_chain _ _ _ _ _ _ _ _ _ _ _ _ op_le op_le pe_int (@pe_callB _ _ _ _ _ _ _ _ _ call_len_seq rfl B.ilen PySem.boot_len (@pa_cons _ _ _ _ _ (@pv _ 0 _ _ (by rfl) (by first | exact Or.inl rfl | exact Or.inr ( Or.inl rfl ) | exact Or.inr ( Or.inr rfl )) (by decide) (by decide)) pa_nil (by rfl)) (by decide) (by decide) (by rfl) (by rfl)) pe_int (by with_unfolding_all rfl)))))) (@pss_one _ _ _ (@ps_ret _ _ _ _ pe_bl)) pss_nil) (@pss_one _ _ _ (@ps_ret _ _ _ _ (@pe_cmpR _ _ _ _ _ _ _ _ (@op_eqL _ hr.units) (@pe_lc _ _ _ _ _ _ _ _ (["one"]) ([none]) _ _ _ _ rfl (@pi_list _ _ _ _ (@pv _ 0 _ _ (by rfl) (by first | exact Or.inl rfl | exact Or.inr ( Or.inl rfl ) | exact Or.inr ( Or.inr rfl )) (by decide) (by decide))) rfl trivial trivial (fun _ _ _ _ => ⟨(@pg_name _ _ (0) _ (show List.Nodup (["one"] : List Str) by decide +kernel) rfl (Or.inl rfl) (by first | exact .inl rfl | exact .inr rfl | assumption)), (@pifs_one _ _ _ (@PW.pt _ _ _ (@pw_or _ _ _ _ _ _ _ (@pt_val _ _ _ (@pe_callB _ _ _ _ _ _ _ _ _ (@call_isinstK _ _ ("bool") rfl) rfl B.iisinstance PyProof.Rows.boot_isinstance (@pa_cons _ _ _ _ _ (@pv _ 0 _ _ (by rfl) (by first | exact Or.inl rfl | exact Or.inr ( Or.inl rfl ) | exact Or.inr ( Or.inr rfl )) (by decide) (by decide)) (@pa_cons _ _ _ _ _ (@pe_bltn _ _ (.ty "bool") _ _ rfl B.ibool PyProof.Rows.boot_bool rfl (by decide) (by decide)) pa_nil (by rfl)) (by rfl)) (by decide) (by decide) (by rfl) (by rfl)) (by intro _; rfl)) (@pw_or1 _ _ _ _ (@pt_not _ _ _ _ (@pt_val _ _ _ (@pe_callB _ _ _ _ _ _ _ _ _ (@call_isinstK _ _ ("int") rfl) rfl B.iisinstance PyProof.Rows.boot_isinstance (@pa_cons _ _ _ _ _ (@pv _ 0 _ _ (by rfl) (by first | exact Or.inl rfl | exact Or.inr ( Or.inl rfl ) | exact Or.inr ( Or.inr rfl )) (by decide) (by decide)) (@pa_cons _ _ _ _ _ (@pe_bltn _ _ (.ty "int") _ _ rfl B.iint PyProof.Rows.boot_int rfl (by decide) (by decide)) pa_nil (by rfl)) (by rfl)) (by decide) (by decide) (by rfl) (by rfl)) (by intro _; rfl))))))), (@pv _ 0 _ _ (by rfl) (by first | exact Or.inl rfl | exact Or.inr ( Or.inl rfl ) | exact Or.inr ( Or.inr rfl )) (by decide) (by decide))⟩) (by rfl) (by rfl) (by rfl) (by rfl) (by intro _; rfl)) (@pe_lst _ _ _ _ pa_nil) (nomark _))))), ?_⟩
  by_cases hl : isListD d = true
  · cases d with
    | list ds =>
      have hd0 := hd
      simp only [Dat] at hd
      obtain ⟨a, xs, rfl, ea, hall⟩ := hd
      have hlen := hall.len
      refine ⟨_, rfl, _, _, true, rfl, .lst ea, rfl, true, rfl, iteF ?_⟩
      by_cases c1 : 1 ≤ xs.length
      · refine ⟨_, rfl, a, _, rfl, .inl (SqL.of ea), _, _, rfl, rfl, true, congrArg V.bl (decide_eq_true (by omega)), iteT ?_⟩
        by_cases c2 : xs.length ≤ 9
        · refine ⟨_, _, rfl, rfl, true, congrArg V.bl (decide_eq_true (by omega)), iteF ?_⟩
          refine ⟨_, rfl, a, rfl, ⟨_, SqL.of ea⟩, ?_⟩
          have er : isRowD (.list ds) = ds.all isIntD := by
            show (decide (1 ≤ ds.length) && decide (ds.length ≤ 9) && ds.all isIntD) = _
            rw [decide_eq_true (show 1 ≤ ds.length by omega), decide_eq_true (show ds.length ≤ 9 by omega)]; simp
          rw [er] at q
          refine lc_list (xs := xs) (fun i ys H' => H' = H ∧ ys.length ≤ i ∧ (ys.isEmpty = (ds.take i).all isIntD)) ⟨rfl, Nat.le_refl _, rfl⟩ (fun i ys H' hi p => ⟨by rw [p.1]; exact SqL.of ea, small1000 (by have := p.2.1; omega)⟩) (fun i x ys H' hx p nx => ?_) (fun ys H' p p5 n5 => ?_)
          · obtain ⟨rfl, pl, pe⟩ := p
            obtain ⟨dd, h1, h2⟩ := dat_at hall hx
            have e1 : (ds.take (i + 1)).all isIntD = ((ds.take i).all isIntD && isIntD dd) := by
              rw [List.take_add_one, h1, List.all_append]
              show (_ && (isIntD dd && true)) = _
              rw [Bool.and_true]
            have bad : isIntD dd = false → H' = H' ∧ (ys ++ [x]).length ≤ i + 1 ∧ ((ys ++ [x]).isEmpty = (ds.take (i + 1)).all isIntD) := fun e => ⟨rfl, by rw [List.length_append]; simp; exact pl, by rw [e1, e, Bool.and_false]; simp⟩
            cases dd with
            | int b => exact ⟨_, rfl, _, _, false, rfl, h2.ty, rfl, false, rfl, iteF ⟨_, rfl, _, _, true, rfl, h2.ty, rfl, true, rfl, iteF (nx ⟨rfl, by omega, by rw [e1, pe]; show _ = (_ && true); rw [Bool.and_true]⟩)⟩⟩
            | bool b => exact ⟨_, rfl, _, _, true, rfl, h2.ty, rfl, true, rfl, iteT ⟨_, rfl, nx (bad rfl)⟩⟩
            | none => exact ⟨_, rfl, _, _, false, rfl, h2.ty, rfl, false, rfl, iteF ⟨_, rfl, _, _, false, rfl, h2.ty, rfl, false, rfl, iteT ⟨_, rfl, nx (bad rfl)⟩⟩⟩
            | str b => exact ⟨_, rfl, _, _, false, rfl, h2.ty, rfl, false, rfl, iteF ⟨_, rfl, _, _, false, rfl, h2.ty, rfl, false, rfl, iteT ⟨_, rfl, nx (bad rfl)⟩⟩⟩
            | list b => exact ⟨_, rfl, _, _, false, rfl, h2.ty, rfl, false, rfl, iteF ⟨_, rfl, _, _, false, rfl, h2.ty, rfl, false, rfl, iteT ⟨_, rfl, nx (bad rfl)⟩⟩⟩
            | tuple b => exact ⟨_, rfl, _, _, false, rfl, h2.ty, rfl, false, rfl, iteF ⟨_, rfl, _, _, false, rfl, h2.ty, rfl, false, rfl, iteT ⟨_, rfl, nx (bad rfl)⟩⟩⟩
            | dict b => exact ⟨_, rfl, _, _, false, rfl, h2.ty, rfl, false, rfl, iteF ⟨_, rfl, _, _, false, rfl, h2.ty, rfl, false, rfl, iteT ⟨_, rfl, nx (bad rfl)⟩⟩⟩
          obtain ⟨rfl, pl, pe⟩ := p
          rw [List.take_of_length_le (by omega)] at pe
          rw [← pe] at q
          refine ⟨(by show 0 ≤ sizeLine; decide), fun p6 n6 => ?_⟩
          have g5 := Same.new n5 (.lst ys)
          have g6 := Same.new n6 (.lst [])
          have e5 := g6 p5 (.lst ys) upd_same
          refine ⟨0, p5, p6, ys, [], by decide, rfl, rfl, SqL.of e5, SqL.of upd_same, ?_⟩
          have z := q _ (g5.trans g6)
          cases ys with
          | nil => exact .inr ⟨fun _ => true, rfl, (fun j x y h => by simp at h), z⟩
          | cons y r => exact .inl ⟨by simp, z⟩
        · refine ⟨_, _, rfl, rfl, false, congrArg V.bl (decide_eq_false (by omega)), iteT ?_⟩
          have z := q H (Same.refl _)
          rw [show isRowD (.list ds) = false by
            show (decide (1 ≤ ds.length) && decide (ds.length ≤ 9) && ds.all isIntD) = false
            rw [decide_eq_false (show ¬ ds.length ≤ 9 by omega)]; simp] at z
          exact z
      · refine ⟨_, rfl, a, _, rfl, .inl (SqL.of ea), _, _, rfl, rfl, false, congrArg V.bl (decide_eq_false (by omega)), iteF ⟨false, rfl, iteT ?_⟩⟩
        have z := q H (Same.refl _)
        rw [show isRowD (.list ds) = false by
          show (decide (1 ≤ ds.length) && decide (ds.length ≤ 9) && ds.all isIntD) = false
          rw [decide_eq_false (show ¬ 1 ≤ ds.length by omega)]; simp] at z
        exact z
    | _ => simp [isListD] at hl
  · have hl' : isListD d = false := by simpa using hl
    refine ⟨_, rfl, _, _, false, rfl, hd.ty, by rw [kit_list, hl'], false, rfl, iteT ?_⟩
    have z := q H (Same.refl _)
    rw [notList hl'] at z
    exact z
end
end Put
set_option Elab.async false
set_option linter.all false
set_option maxRecDepth 100000
set_option maxHeartbeats 2000000
namespace Put
open PySem L2
theorem sg1 (g : Sg) : g.str.length = 1 := by cases g <;> decide +kernel
section
variable {P : Program} {w : World} {K : PySem.W.Frag} {mg : Str → Option Value} {base : Heap} {f : Addr} {fd : FuncData}
def spSgIn : Sp := fun vs H Q _ => ∃ d v, vs = [v] ∧ Dat H d v ∧ szD d ≤ 900 ∧ (isWayD d = false → ∀ H', Same H H' → Q .non H') ∧ (isWayD d = true → ∀ (fs : List Sg) H', Same H H' → fs.length ≤ 900 → (∀ p : Str → Bool, (fs.all fun g => p g.str) = sgA p d) → Q (.str (sgText fs)) H')
def LsInv (H : Hp) (d0 : PyData) (v : V) (m : Nat) (σ : St) (H' : Hp) : Prop := ∃ (n : Nat) (ds : List PyData) (vs : List V) (pw : Addr) (fs : List Sg) (one : Option V), σ = [some v, some (.ref pw), some (.int n), some (.str (sgText fs)), one] ∧ H pw = none ∧ H' pw = some (.lst vs) ∧ DatAll H ds vs ∧ Same H H' ∧ Left n ds d0 ∧ (∀ p : Str → Bool, ((fs.all fun g => p g.str) && ds.all (sgA p)) = sgA p d0) ∧ szL ds ≤ 900 ∧ fs.length + szL ds ≤ 900 ∧ m = szL ds
abbrev s__law_signs_in : Stmt := top 62
theorem sc__law_signs_in : FnScope ["thing", "waiting", "many", "found", "one"] ["thing"] (defScope s__law_signs_in) := ⟨rfl, rfl, rfl, by decide +kernel, rfl, by decide +kernel, by decide +kernel⟩
theorem ok_signs_in (F : Fun K "_law_signs_in" "_law_signs_in" s__law_signs_in f fd) (B : Bu K mg) : FnOk P w K mg base CX0 1 f fd ["thing"] spSgIn := by
  refine F.ok sc__law_signs_in (fun vs H Q E h => ?_) (fun cdv A outer s H vs Q E hr h => ?_)
  · obtain ⟨x, v, rfl, _⟩ := h
    rfl
  obtain ⟨d0, v, rfl, hd0, hsz, qF, qT⟩ := h
  refine ⟨_, (@pss_cons _ _ _ _ _ (@ps_set _ _ (1) _ _ _ _ (sc__law_signs_in).nd rfl (Or.inl rfl) (@pe_lst _ _ _ _ (@pa_cons _ _ _ _ _ (@pv _ 0 _ _ (by rfl) (by first | exact Or.inl rfl | exact Or.inr ( Or.inl rfl ) | exact Or.inr ( Or.inr rfl )) (by decide) (by decide)) pa_nil (by rfl))) (by rfl) (by first | exact .inl rfl | exact .inr rfl | assumption)) (@pss_cons _ _ _ _ _ (@ps_set _ _ (2) _ _ _ _ (sc__law_signs_in).nd rfl (Or.inl rfl) pe_int (by rfl) (by first | exact .inl rfl | exact .inr rfl | assumption)) (@pss_cons _ _ _ _ _ (@ps_set _ _ (3) _ _ _ _ (sc__law_signs_in).nd rfl (Or.inl rfl) pe_str (by rfl) (by first | exact .inl rfl | exact .inr rfl | assumption)) (@pss_cons _ _ _ _ _ (@ps_while _ _ _ _ _ _ PassesOwn.never (@pt_cmpR _ _ _ _ _ _ _ _ (@op_neL _ hr.units) (@pv _ 1 _ _ (by rfl) (by first | exact Or.inl rfl | exact Or.inr ( Or.inl rfl ) | exact Or.inr ( Or.inr rfl )) (by decide) (by decide)) (@pe_lst _ _ _ _ pa_nil) (nomark _)) (@pss_cons _ _ _ _ _ (@ps_set _ _ (4) _ _ _ _ (sc__law_signs_in).nd rfl (Or.inl rfl) (@pe_bm0 _ _ _ _ _ _ _ _ _ PySem.F.plainAttrs_list PySem.F.slot_list_pop PySem.F.type_list_pop mt_pop (@pv _ 1 _ _ (by rfl) (by first | exact Or.inl rfl | exact Or.inr ( Or.inl rfl ) | exact Or.inr ( Or.inr rfl )) (by decide) (by decide)) (by rfl) (by rfl)) (by rfl) (by first | exact .inl rfl | exact .inr rfl | assumption)) (@pss_one _ _ _ (@ps_if _ _ _ _ _ _ _ _ (@pt_val _ _ _ (@pe_callB _ _ _ _ _ _ _ _ _ (@call_isinst _ ("tuple")) rfl B.iisinstance PyProof.Rows.boot_isinstance (@pa_cons _ _ _ _ _ (@pv _ 4 _ _ (by rfl) (by first | exact Or.inl rfl | exact Or.inr ( Or.inl rfl ) | exact Or.inr ( Or.inr rfl )) (by decide) (by decide)) (@pa_cons _ _ _ _ _ (@pe_bltn _ _ (.ty "tuple") _ _ rfl B.ituple PyProof.Rows.boot_tuple rfl (by decide) (by decide)) pa_nil (by rfl)) (by rfl)) (by decide) (by decide) (by rfl) (by rfl)) (by intro _; rfl)) (@pss_cons _ _ _ _ _ (@ps_if _ _ _ _ _ _ _ _ (@PW.pt _ _ _ (@pw_or _ _ _ _ _ _ _ (@pt_cmpR _ _ _ _ _ _ _ _ op_ne (@pe_callB _ _ _ _ _ _ _ _ _ call_len_seq rfl B.ilen PySem.boot_len (@pa_cons _ _ _ _ _ (@pv _ 4 _ _ (by rfl) (by first | exact Or.inl rfl | exact Or.inr ( Or.inl rfl ) | exact Or.inr ( Or.inr rfl )) (by decide) (by decide)) pa_nil (by rfl)) (by decide) (by decide) (by rfl) (by rfl)) pe_int (nomark _)) (@pw_or _ _ _ _ _ _ _ (@pt_not _ _ _ _ (@pt_val _ _ _ (@pe_callB _ _ _ _ _ _ _ _ _ (@call_isinst _ ("str")) rfl B.iisinstance PyProof.Rows.boot_isinstance (@pa_cons _ _ _ _ _ (@pe_ix _ _ _ _ _ _ _ ix_tup (@pv _ 4 _ _ (by rfl) (by first | exact Or.inl rfl | exact Or.inr ( Or.inl rfl ) | exact Or.inr ( Or.inr rfl )) (by decide) (by decide)) pe_int (fun _ _ => rfl)) (@pa_cons _ _ _ _ _ (@pe_bltn _ _ (.ty "str") _ _ rfl B.istr PyProof.Rows.boot_str rfl (by decide) (by decide)) pa_nil (by rfl)) (by rfl)) (by decide) (by decide) (by rfl) (by rfl)) (by intro _; rfl))) (@pw_or1 _ _ _ _ (@pt_cmpR _ _ _ _ _ _ _ _ op_notIn_seq (@pe_ix _ _ _ _ _ _ _ ix_tup (@pv _ 4 _ _ (by rfl) (by first | exact Or.inl rfl | exact Or.inr ( Or.inl rfl ) | exact Or.inr ( Or.inr rfl )) (by decide) (by decide)) pe_int (fun _ _ => rfl)) (@pe_lst _ _ _ _ (@pa_cons _ _ _ _ _ pe_str (@pa_cons _ _ _ _ _ pe_str (@pa_cons _ _ _ _ _ pe_str pa_nil (by rfl)) (by rfl)) (by rfl))) (by with_unfolding_all rfl)))))) (@pss_one _ _ _ (@ps_ret _ _ _ _ pe_non)) pss_nil) (@pss_cons _ _ _ _ _ (@ps_set _ _ (1) _ _ _ _ (sc__law_signs_in).nd rfl (Or.inl rfl) (@pe_op _ _ _ _ _ _ _ _ op_cat (@pv _ 1 _ _ (by rfl) (by first | exact Or.inl rfl | exact Or.inr ( Or.inl rfl ) | exact Or.inr ( Or.inr rfl )) (by decide) (by decide)) (@pe_lst _ _ _ _ (@pa_cons _ _ _ _ _ (@pe_ix _ _ _ _ _ _ _ ix_tup (@pv _ 4 _ _ (by rfl) (by first | exact Or.inl rfl | exact Or.inr ( Or.inl rfl ) | exact Or.inr ( Or.inr rfl )) (by decide) (by decide)) pe_int (fun _ _ => rfl)) (@pa_cons _ _ _ _ _ (@pe_ix _ _ _ _ _ _ _ ix_tup (@pv _ 4 _ _ (by rfl) (by first | exact Or.inl rfl | exact Or.inr ( Or.inl rfl ) | exact Or.inr ( Or.inr rfl )) (by decide) (by decide)) pe_int (fun _ _ => rfl)) pa_nil (by rfl)) (by rfl)))) (by rfl) (by first | exact .inl rfl | exact .inr rfl | assumption)) (@pss_one _ _ _ (@ps_set _ _ (3) _ _ _ _ (sc__law_signs_in).nd rfl (Or.inl rfl) (@pe_op _ _ _ _ _ _ _ _ op_add_str (@pv _ 3 _ _ (by rfl) (by first | exact Or.inl rfl | exact Or.inr ( Or.inl rfl ) | exact Or.inr ( Or.inr rfl )) (by decide) (by decide)) (@pe_ix _ _ _ _ _ _ _ ix_tup (@pv _ 4 _ _ (by rfl) (by first | exact Or.inl rfl | exact Or.inr ( Or.inl rfl ) | exact Or.inr ( Or.inr rfl )) (by decide) (by decide)) pe_int (fun _ _ => rfl))) (by rfl) (by first | exact .inl rfl | exact .inr rfl | assumption))))) (@pss_one _ _ _ (@ps_if _ _ _ _ _ _ _ _ (@PW.pt _ _ _ (@pw_or _ _ _ _ _ _ _ (@pt_val _ _ _ (@pe_callB _ _ _ _ _ _ _ _ _ (@call_isinst _ ("bool")) rfl B.iisinstance PyProof.Rows.boot_isinstance (@pa_cons _ _ _ _ _ (@pv _ 4 _ _ (by rfl) (by first | exact Or.inl rfl | exact Or.inr ( Or.inl rfl ) | exact Or.inr ( Or.inr rfl )) (by decide) (by decide)) (@pa_cons _ _ _ _ _ (@pe_bltn _ _ (.ty "bool") _ _ rfl B.ibool PyProof.Rows.boot_bool rfl (by decide) (by decide)) pa_nil (by rfl)) (by rfl)) (by decide) (by decide) (by rfl) (by rfl)) (by intro _; rfl)) (@pw_or1 _ _ _ _ (@pt_not _ _ _ _ (@pt_val _ _ _ (@pe_callB _ _ _ _ _ _ _ _ _ (@call_isinst _ ("int")) rfl B.iisinstance PyProof.Rows.boot_isinstance (@pa_cons _ _ _ _ _ (@pv _ 4 _ _ (by rfl) (by first | exact Or.inl rfl | exact Or.inr ( Or.inl rfl ) | exact Or.inr ( Or.inr rfl )) (by decide) (by decide)) (@pa_cons _ _ _ _ _ (@pe_bltn _ _ (.ty "int") _ _ rfl B.iint PyProof.Rows.boot_int rfl (by decide) (by decide)) pa_nil (by rfl)) (by rfl)) (by decide) (by decide) (by rfl) (by rfl)) (by intro _; rfl)))))) (@pss_one _ _ _ (@ps_ret _ _ _ _ pe_non)) (@pss_one _ _ _ (@ps_set _ _ (2) _ _ _ _ (sc__law_signs_in).nd rfl (Or.inl rfl) (@pe_op _ _ _ _ _ _ _ _ op_add (@pv _ 2 _ _ (by rfl) (by first | exact Or.inl rfl | exact Or.inr ( Or.inl rfl ) | exact Or.inr ( Or.inr rfl )) (by decide) (by decide)) pe_int) (by rfl) (by first | exact .inl rfl | exact .inr rfl | assumption))))))))) (@pss_one _ _ _ (@ps_ret _ _ _ _ (@pe_ix _ _ _ _ _ _ _ ix_list (@pe_lst _ _ _ _ (@pa_cons _ _ _ _ _ pe_non (@pa_cons _ _ _ _ _ (@pv _ 3 _ _ (by rfl) (by first | exact Or.inl rfl | exact Or.inr ( Or.inl rfl ) | exact Or.inr ( Or.inr rfl )) (by decide) (by decide)) pa_nil (by rfl)) (by rfl))) (@pe_callTy _ _ _ _ _ _ _ _ _ call_int1 rfl B.iint PyProof.Rows.boot_int (@pa_cons _ _ _ _ _ (@pe_cmpR _ _ _ _ _ _ _ _ op_lt (@pv _ 2 _ _ (by rfl) (by first | exact Or.inl rfl | exact Or.inr ( Or.inl rfl ) | exact Or.inr ( Or.inr rfl )) (by decide) (by decide)) pe_int (nomark _)) pa_nil (by rfl)) (by decide) (by decide) (by rfl) (by rfl)) (fun _ _ => rfl)))))))), ?_⟩
  refine ⟨_, rfl, (by show 1 ≤ sizeLine; decide), fun p hp => ?_⟩
  refine ⟨LsInv H d0 v, ?_, ?_⟩
  · refine ⟨_, 0, [d0], [v], p, [], _, rfl, hp, upd_same, DatAll.one hd0, Same.new hp _, ?_, fun p => by simp, by simpa [szL] using hsz, by simpa [szL] using hsz, rfl⟩
    unfold Left
    have e : tot [d0] = (match cntD d0, some 0 with | some a, some b => some (a + b) | _, _ => none) := rfl
    rw [e]
    cases cntD d0 <;> simp
  rintro m σ H' ⟨n, ds, vs, pw, fs, one, rfl, nw, ew, hall, hS, hL, hP, hz, hz2, rfl⟩
  have hlen := hall.len
  have hls := len_szL ds
  refine ⟨_, rfl, (by show 0 ≤ sizeLine; decide), fun p0 n0 => ?_⟩
  have g0 := Same.new n0 (.lst [])
  refine ⟨0, pw, p0, vs, [], by decide, rfl, rfl, SqL.of (g0 _ _ ew), SqL.of upd_same, ?_⟩
  by_cases ne : vs = []
  · subst ne
    have e : ds = [] := List.length_eq_zero_iff.mp hlen
    subst e
    refine .inr ⟨fun _ => true, rfl, (fun j x y h => by simp at h), false, rfl, iteF ?_⟩
    refine ⟨_, rfl, (by show 2 ≤ sizeLine; decide), fun p1 n1 => ?_⟩
    have G := (hS.trans g0).trans (Same.new n1 (.lst [.non, .str (sgText fs)]))
    have hd := hL.done
    by_cases c : n ≤ 9
    · rw [decide_eq_true c] at hd
      refine ⟨_, rfl, _, _, rfl, rfl, .inr ⟨true, congrArg (fun b => [V.bl b]) (decide_eq_true (by omega)), p1, _, _, _, rfl, rfl, SqL.of upd_same, rfl, ?_⟩⟩
      exact qT hd fs _ G (by omega) fun p => by have := hP p; simpa using this
    · rw [decide_eq_false c] at hd
      refine ⟨_, rfl, _, _, rfl, rfl, .inr ⟨false, congrArg (fun b => [V.bl b]) (decide_eq_false (by omega)), p1, _, _, _, rfl, rfl, SqL.of upd_same, rfl, ?_⟩⟩
      exact qF hd _ G
  refine .inl ⟨by simpa using ne, true, rfl, iteT ⟨fun σ' H' => ∃ m', m' < szL ds ∧ LsInv H d0 v m' σ' H', fun _ _ h => h, ?_⟩⟩
  obtain ⟨ds', d, vs', v', rfl, rfl, hall', hd⟩ := hall.last ne
  have ew0 := g0 _ _ ew
  have hS0 := hS.trans g0
  rw [szL_snoc] at hz hz2 ⊢
  have zp := szD_pos d
  have hlen' := hall'.len
  have hls' := len_szL ds'
  refine ⟨_, rfl, .inl ⟨rfl, _, SqL.of ew0⟩, pw, _, v', rfl, rfl, ew0, last_at _ _, ?_⟩
  rw [trunc]
  have hS1 : Same H (upd (upd H' p0 (.lst [])) pw (.lst vs')) := hS0.upd nw
  have ew1 : upd (upd H' p0 (.lst [])) pw (.lst vs') pw = _ := upd_same
  revert hS1 ew1
  generalize upd (upd H' p0 (.lst [])) pw (.lst vs') = H1
  intro hS1 ew1
  have hd1 := Dat.mono hS1 d v' hd
  have bad : cntD d = none → ∀ H2, Same H1 H2 → Q .non H2 := fun e H2 g2 => qF (hL.bad e) _ (hS1.trans g2)
  cases d with
  | int i =>
    refine ⟨_, rfl, _, _, false, rfl, hd1.ty, rfl, false, rfl, iteF ?_⟩
    refine ⟨_, rfl, _, _, false, rfl, hd1.ty, rfl, false, rfl, iteF ⟨_, rfl, _, _, true, rfl, hd1.ty, rfl, true, rfl, iteF ?_⟩⟩
    refine ⟨_, rfl, _, _, rfl, rfl, ?_⟩
    exact ⟨szL ds', by simp only [szD]; omega, n + 1, ds', vs', pw, fs, _, rfl, nw, ew1, hall', hS1, hL.num, fun p => by have := hP p; simpa [sgA] using this, by omega, by omega, rfl⟩
  | tuple xs =>
    have ty := hd1.ty (K := K)
    simp only [Dat] at hd
    obtain ⟨a, us, rfl, ha, hxs⟩ := hd
    have ha1 := hS1 _ _ ha
    refine ⟨_, rfl, _, _, true, rfl, ty, rfl, true, rfl, iteT ?_⟩
    have lx := hxs.len
    refine ⟨_, rfl, a, _, rfl, .inr (SqT.of ha1), rfl, _, rfl, ?_⟩
    by_cases c3 : us.length = 3
    · obtain ⟨s, l, r, x, y, z, rfl, rfl, h1, h2, h3⟩ := dat3 hxs c3
      refine iteNS rfl ?_
      have h1' := Dat.mono hS1 s x h1
      by_cases hs : ∃ zs, s = .str zs
      · obtain ⟨zs, rfl⟩ := hs
        have ex : x = .str zs := by simpa only [Dat] using h1
        subst ex
        refine ⟨_, rfl, a, _, _, _, rfl, rfl, SqT.of ha1, rfl, _, _, true, rfl, .str zs, rfl, true, rfl, iteF ?_⟩
        refine ⟨_, rfl, a, _, _, _, rfl, rfl, SqT.of ha1, rfl, (by show 3 ≤ sizeLine; decide), fun p2 n2 => ⟨p2, _, rfl, .inl (SqL.of upd_same), rfl, rfl, !isSg zs, rfl, ?_⟩⟩
        have g2 := Same.new n2 (.lst [.str "+", .str "-", .str "*"])
        cases hg : isSg zs with
        | true =>
          refine iteF ?_
          obtain ⟨g, rfl⟩ := sg_of hg
          refine ⟨_, rfl, _, rfl, a, _, _, _, rfl, rfl, SqT.of (g2 _ _ ha1), rfl, _, rfl, a, _, _, _, rfl, rfl, SqT.of (g2 _ _ ha1), rfl, (by show 2 ≤ sizeLine; decide), fun p3 n3 => ?_⟩
          have g3 := Same.new n3 (.lst [y, z])
          refine ⟨pw, p3, _, _, rfl, rfl, g3 _ _ (g2 _ _ ew1), upd_same, le_line (by show vs'.length + 2 ≤ 1000; omega), fun p4 n4 => ?_⟩
          have g4 := Same.new n4 (.lst (vs' ++ [y, z]))
          have G := (hS1.trans g2).trans (g3.trans g4)
          have ha4 := G _ _ ha
          have zs1 : szD (PyData.tuple [.str g.str, l, r]) = szD l + szD r + 2 := by simp only [szD, szAll]; omega
          rw [zs1] at hz hz2 ⊢
          have lf : (sgText fs).length + g.str.length ≤ 1000 := by rw [sgText_len, sg1]; omega
          refine ⟨_, rfl, _, rfl, a, _, _, _, rfl, rfl, SqT.of ha4, rfl, _, _, rfl, rfl, le_line lf, ?_⟩
          have ea : sgText fs ++ g.str = sgText (fs ++ [g]) := by
            rw [sgText_app]
            have e1 : sgText [g] = g.str := by cases g <;> decide +kernel
            rw [e1]
          rw [ea]
          refine ⟨szL (ds' ++ [l] ++ [r]), ?_, n, ds' ++ [l] ++ [r], vs' ++ [y, z], p4, fs ++ [g], _, rfl, ((hS1.trans g2).trans g3).free n4, upd_same, ?_, G, hL.node (by simpa only [sgD] using hg), fun p => ?_, ?_, ?_, rfl⟩
          · rw [szL_snoc, szL_snoc]; omega
          · rw [List.append_assoc]
            exact hall'.app ((DatAll.one h2).app (DatAll.one h3))
          · have := hP p
            rw [← this]
            simp only [List.all_append, List.all_cons, List.all_nil, sgA, sgAT, Bool.and_true]
            cases (fs.all fun g => p g.str) <;> cases p g.str <;> cases ds'.all (sgA p) <;> cases sgA p l <;> cases sgA p r <;> rfl
          · rw [szL_snoc, szL_snoc]; omega
          · rw [szL_snoc, szL_snoc, List.length_append]; simp only [List.length_cons, List.length_nil]; omega
        | false => exact iteT (bad (cnt_sg (by simpa only [sgD] using hg)) _ g2)
      · have tyx := h1'.ty (K := K)
        have hsg : sgD s = false := by cases s <;> first | rfl | exact absurd ⟨_, rfl⟩ hs
        have hb : PySem.W.kitOne K (.type (tyName s)) (.type "str") = some false := by cases s <;> first | rfl | exact absurd ⟨_, rfl⟩ hs
        refine ⟨_, rfl, a, _, _, _, rfl, rfl, SqT.of ha1, rfl, _, _, false, rfl, tyx, hb, false, rfl, iteT ?_⟩
        exact bad (cnt_sg hsg) H1 (Same.refl _)
    · refine iteNN (fun e => c3 (by injection e with e; omega)) ?_
      exact bad (cnt_len (by omega)) H1 (Same.refl _)
  | bool b => exact ⟨_, rfl, _, _, false, rfl, hd1.ty, rfl, false, rfl, iteF ⟨_, rfl, _, _, true, rfl, hd1.ty, rfl, true, rfl, iteT (bad (by simp only [cntD]) H1 (Same.refl _))⟩⟩
  | none => exact ⟨_, rfl, _, _, false, rfl, hd1.ty, rfl, false, rfl, iteF ⟨_, rfl, _, _, false, rfl, hd1.ty, rfl, false, rfl, iteF ⟨_, rfl, _, _, false, rfl, hd1.ty, rfl, false, rfl, iteT (bad (by simp only [cntD]) H1 (Same.refl _))⟩⟩⟩
  | str b => exact ⟨_, rfl, _, _, false, rfl, hd1.ty, rfl, false, rfl, iteF ⟨_, rfl, _, _, false, rfl, hd1.ty, rfl, false, rfl, iteF ⟨_, rfl, _, _, false, rfl, hd1.ty, rfl, false, rfl, iteT (bad (by simp only [cntD]) H1 (Same.refl _))⟩⟩⟩
  | list b => exact ⟨_, rfl, _, _, false, rfl, hd1.ty, rfl, false, rfl, iteF ⟨_, rfl, _, _, false, rfl, hd1.ty, rfl, false, rfl, iteF ⟨_, rfl, _, _, false, rfl, hd1.ty, rfl, false, rfl, iteT (bad (by simp only [cntD]) H1 (Same.refl _))⟩⟩⟩
  | dict b => exact ⟨_, rfl, _, _, false, rfl, hd1.ty, rfl, false, rfl, iteF ⟨_, rfl, _, _, false, rfl, hd1.ty, rfl, false, rfl, iteF ⟨_, rfl, _, _, false, rfl, hd1.ty, rfl, false, rfl, iteT (bad (by simp only [cntD]) H1 (Same.refl _))⟩⟩⟩
end
end Put
set_option Elab.async false
set_option linter.all false
set_option maxRecDepth 100000
set_option maxHeartbeats 2000000
namespace Put
open PySem L2
def toldS (k : Int) (d e b : PyData) : Str :=
  if k < 4 then (if isWayD d = false then "NoWay" else "told")
  else if k = 4 then (if isSgsD d = false then "NoSigns" else if isManyD e = false then "NoNumber" else "told")
  else if k = 5 then (if isWayD d = false then "NoWay" else if isSgsD e = false then "NoSigns" else if sgA (fun y => match e with | .str z => hasS z y | _ => true) d = false then "NoFit" else "told")
  else (if isRowD d = false then "NoRow" else if isSgsD e = false then "NoSigns" else if okN (cn (sgl e) (rlen d)) b = false then "NoNumber" else "told")
theorem told_way {k : Int} {d e b : PyData} (h : k < 4) : toldS k d e b = (if isWayD d = false then ("NoWay" : Str) else ("told" : Str)) := by unfold toldS; rw [if_pos h]
theorem told_4 {d e b : PyData} : toldS 4 d e b = (if isSgsD d = false then ("NoSigns" : Str) else if isManyD e = false then ("NoNumber" : Str) else ("told" : Str)) := by unfold toldS; rw [if_neg (by decide), if_pos rfl]
theorem told_5 {d e b : PyData} : toldS 5 d e b = (if isWayD d = false then ("NoWay" : Str) else if isSgsD e = false then ("NoSigns" : Str) else if sgA (fun y => match e with | .str z => hasS z y | _ => true) d = false then ("NoFit" : Str) else ("told" : Str)) := by unfold toldS; rw [if_neg (by decide), if_neg (by decide), if_pos rfl]
theorem told_6 {d e b : PyData} : toldS 6 d e b = (if isRowD d = false then ("NoRow" : Str) else if isSgsD e = false then ("NoSigns" : Str) else if okN (cn (sgl e) (rlen d)) b = false then ("NoNumber" : Str) else ("told" : Str)) := by unfold toldS; rw [if_neg (by decide), if_neg (by decide), if_neg (by decide)]
theorem neF {b : Bool} (h : b = true) : ¬ b = false := fun z => by rw [h] at z; cases z
section
variable {P : Program} {w : World} {K : PySem.W.Frag} {mg : Str → Option Value} {base : Heap} {f : Addr} {fd : FuncData}
def spTold : Sp := fun vs H Q _ => ∃ k d v e u b x, vs = [.int k, v, u, x] ∧ 0 ≤ k ∧ k ≤ 6 ∧ Dat H d v ∧ Dat H e u ∧ Dat H b x ∧ OkD d ∧ ∀ H', Same H H' → Q (.str (toldS k d e b)) H'
abbrev s__law_told : Stmt := top 63
theorem sc__law_told : FnScope ["way", "one", "other", "third", "caught", "e"] ["way", "one", "other", "third"] (defScope s__law_told) := ⟨rfl, rfl, rfl, by decide +kernel, rfl, by decide +kernel, by decide +kernel⟩
theorem ok_told {aP aR aS aW aN aL aF aO aA aH aT aM f1 f2 f3 f4 f5 f6 : Addr} (F : Fun K "_law_told" "_law_told" s__law_told f fd) (B : Bu K mg) (XC : Xc K mg aP aR aS aW aN aF) (D0 : Kd K aR aS aW aN aL aF aO aA aH aT aM aR 0) (D1 : Kd K aR aS aW aN aL aF aO aA aH aT aM aS 1) (D2 : Kd K aR aS aW aN aL aF aO aA aH aT aM aW 2) (D3 : Kd K aR aS aW aN aL aF aO aA aH aT aM aN 3) (D5 : Kd K aR aS aW aN aL aF aO aA aH aT aM aF 5)
    (m_numbers_of : mg "numbers_of" = some (.ref f1)) (m_signs_of : mg "signs_of" = some (.ref f2)) (m_stretches_of : mg "stretches_of" = some (.ref f3)) (m_brackets_in : mg "brackets_in" = some (.ref f4)) (m_how_many_ways : mg "how_many_ways" = some (.ref f5)) (m_number_of_way : mg "number_of_way" = some (.ref f6))
    (V_numbers_of : CalF P w K mg base f1 22 ["way"] (spWayAny aW)) (V_signs_of : CalF P w K mg base f2 22 ["way"] (spWayAny aW)) (V_stretches_of : CalF P w K mg base f3 43 ["way"] (spWayAny aW)) (V_brackets_in : CalF P w K mg base f4 24 ["way"] (spWayAny aW)) (V_how_many_ways : CalF P w K mg base f5 4 ["signs", "many"] (spHow1 aS aN)) (V_number_of_way : CalF P w K mg base f6 32 ["way", "signs"] (spNow1 aW aS aF))
    (C_nth_way : Cal1 P w K mg base "nth_way" 12 ["row", "signs", "number"] (spNth1 aR aS aN)) (C__law_kind : Cal P w K mg base "_law_kind" 1 ["caught"] (spKind K aR aS aW aN aL aF aO aA aH aT aM)) : FnOk P w K mg base CX0 44 f fd ["way", "one", "other", "third"] spTold := by
  refine F.ok sc__law_told (fun vs H Q E h => ?_) (fun cdv A outer s H vs Q E hr h => ?_)
  · obtain ⟨k, d, v, e, u, b, x, rfl, _⟩ := h
    rfl
  obtain ⟨k, d, v, e, u, b, x, rfl, k0, k6, hd, he, hb, ok, q⟩ := h
  refine ⟨_, (@pss_cons _ _ _ _ _ (@ps_set _ _ (4) _ _ _ _ (sc__law_told).nd rfl (Or.inl rfl) pe_non (by rfl) (by first | exact .inl rfl | exact .inr rfl | assumption)) (@pss_cons _ _ _ _ _ (@ps_try _ _ _ _ (5) _ _ _ _ _ _ _ _ rfl rfl rfl rfl XC.mPutError (sc__law_told).nd rfl rfl (fun _ _ => (pss_one (ps_if (pt_cmpR op_lt (pv 0) pe_int (nomark _)) (pss_one (ps_expr (pe_calV rfl hr (pe_ix (ix_listK rfl) (pe_lst (pa_cons (pe_glob (v := .ref f1) rfl m_numbers_of rfl) (pa_cons (pe_glob (v := .ref f2) rfl m_signs_of rfl) pa_nil))) (pv 0) (fun _ _ => rfl)) (pa_cons (pv 1) pa_nil)))) (pss_one (ps_if (pt_cmpR op_lt (pv 0) pe_int (nomark _)) (pss_one (ps_expr (pe_calV rfl hr (pe_ix (ix_listK rfl) (pe_lst (pa_cons (pe_glob (v := .ref f3) rfl m_stretches_of rfl) (pa_cons (pe_glob (v := .ref f4) rfl m_brackets_in rfl) pa_nil))) (pe_op op_sub (pv 0) pe_int) (fun _ _ => rfl)) (pa_cons (pv 1) pa_nil)))) (pss_one (ps_if (pt_cmpR op_lt (pv 0) pe_int (nomark _)) (pss_one (ps_expr (pe_calV rfl hr (pe_ix (ix_listK rfl) (pe_lst (pa_cons (pe_glob (v := .ref f5) rfl m_how_many_ways rfl) (pa_cons (pe_glob (v := .ref f6) rfl m_number_of_way rfl) pa_nil))) (pe_op op_sub (pv 0) pe_int) (fun _ _ => rfl)) (pa_cons (pv 1) (pa_cons (pv 2) pa_nil))))) (pss_one (ps_expr (pe_calT C_nth_way rfl hr (by omega) rfl (pa_cons (pv 1) (pa_cons (pv 2) (pa_cons (pv 3) pa_nil))))))))))))) (fun _ => (pss_one (ps_set (i := 4) (sc__law_told).nd rfl (Or.inl rfl) (pv 5)))) (by decide)) (@pss_one _ _ _ (@ps_ret _ _ _ _ (@pe_ifExp _ _ _ _ _ _ _ _ (@pt_cmpR _ _ _ _ _ _ _ _ op_isN (@pv _ 4 _ _ (by rfl) (by first | exact Or.inl rfl | exact Or.inr ( Or.inl rfl ) | exact Or.inr ( Or.inr rfl )) (by decide) (by decide)) pe_non (nomark _)) pe_str (@pe_cal _ _ _ _ _ _ _ _ _ _ _ C__law_kind hr (by omega) rfl (@pa_cons _ _ _ _ _ (@pv _ 4 _ _ (by rfl) (by first | exact Or.inl rfl | exact Or.inr ( Or.inl rfl ) | exact Or.inr ( Or.inr rfl )) (by decide) (by decide)) pa_nil (by rfl)) (by decide) (by rfl) (by rfl))))))), ?_⟩
  have caught : ∀ (C : Addr) (nm : Str), toldS k d e b = nm → ∀ H1, Same H H1 → ∀ ea, H1 ea = none → ∀ H2, Same (upd H1 ea (excV ea C)) H2 → Q (.str nm) H2 := fun C nm et H1 g1 ea ne H2 g2 => by
    have z := q H2 ((g1.trans (Same.new ne _)).trans g2)
    rw [et] at z; exact z
  have cases7 : k = 0 ∨ k = 1 ∨ k = 2 ∨ k = 3 ∨ k = 4 ∨ k = 5 ∨ k = 6 := by omega
  rcases cases7 with rfl | rfl | rfl | rfl | rfl | rfl | rfl
  · refine ⟨_, rfl, _, _, rfl, rfl, true, rfl, iteT ?_⟩
    refine ⟨(by show 2 ≤ sizeLine; decide), fun p np => ⟨_, rfl, p, _, _, _, rfl, rfl, SqL.of upd_same, rfl, f1, 22, _, _, rfl, V_numbers_of, by decide, _, rfl, d, v, rfl, Dat.mono (Same.new np _) d v hd, fun c => ?_, fun c H1 g1 C hC => ?_⟩⟩
    · obtain ⟨wy, w1, w2, w3⟩ := way_in c (Dat.mono (Same.new np _) d v hd) ok
      refine ⟨wy, w1, w2, fun y H1 g1 => ?_⟩
      have z := q H1 ((Same.new np _).trans g1)
      rw [told_way (by decide), if_neg (neF c)] at z
      exact ⟨_, rfl, rfl, true, rfl, iteT z⟩
    · cases hC
      refine ⟨XC.uNoWay, fun ea ne => ?_⟩
      exact ⟨_, rfl, _, rfl, rfl, false, rfl, iteF ⟨_, rfl, ea, _, 2, _, rfl, upd_same, D2, rfl, fun H2 g2 => caught _ _ (by rw [told_way (by decide), if_pos c]) H1 ((Same.new np _).trans g1) ea ne H2 g2⟩⟩
  · refine ⟨_, rfl, _, _, rfl, rfl, true, rfl, iteT ?_⟩
    refine ⟨(by show 2 ≤ sizeLine; decide), fun p np => ⟨_, rfl, p, _, _, _, rfl, rfl, SqL.of upd_same, rfl, f2, 22, _, _, rfl, V_signs_of, by decide, _, rfl, d, v, rfl, Dat.mono (Same.new np _) d v hd, fun c => ?_, fun c H1 g1 C hC => ?_⟩⟩
    · obtain ⟨wy, w1, w2, w3⟩ := way_in c (Dat.mono (Same.new np _) d v hd) ok
      refine ⟨wy, w1, w2, fun y H1 g1 => ?_⟩
      have z := q H1 ((Same.new np _).trans g1)
      rw [told_way (by decide), if_neg (neF c)] at z
      exact ⟨_, rfl, rfl, true, rfl, iteT z⟩
    · cases hC
      refine ⟨XC.uNoWay, fun ea ne => ?_⟩
      exact ⟨_, rfl, _, rfl, rfl, false, rfl, iteF ⟨_, rfl, ea, _, 2, _, rfl, upd_same, D2, rfl, fun H2 g2 => caught _ _ (by rw [told_way (by decide), if_pos c]) H1 ((Same.new np _).trans g1) ea ne H2 g2⟩⟩
  · refine ⟨_, rfl, _, _, rfl, rfl, false, rfl, iteF ⟨_, rfl, _, _, rfl, rfl, true, rfl, iteT ?_⟩⟩
    refine ⟨(by show 2 ≤ sizeLine; decide), fun p np => ⟨_, rfl, _, _, rfl, rfl, p, _, _, _, rfl, rfl, SqL.of upd_same, rfl, f3, 43, _, _, rfl, V_stretches_of, by decide, _, rfl, d, v, rfl, Dat.mono (Same.new np _) d v hd, fun c => ?_, fun c H1 g1 C hC => ?_⟩⟩
    · obtain ⟨wy, w1, w2, w3⟩ := way_in c (Dat.mono (Same.new np _) d v hd) ok
      refine ⟨wy, w1, w2, fun y H1 g1 => ?_⟩
      have z := q H1 ((Same.new np _).trans g1)
      rw [told_way (by decide), if_neg (neF c)] at z
      exact ⟨_, rfl, rfl, true, rfl, iteT z⟩
    · cases hC
      refine ⟨XC.uNoWay, fun ea ne => ?_⟩
      exact ⟨_, rfl, _, rfl, rfl, false, rfl, iteF ⟨_, rfl, ea, _, 2, _, rfl, upd_same, D2, rfl, fun H2 g2 => caught _ _ (by rw [told_way (by decide), if_pos c]) H1 ((Same.new np _).trans g1) ea ne H2 g2⟩⟩
  · refine ⟨_, rfl, _, _, rfl, rfl, false, rfl, iteF ⟨_, rfl, _, _, rfl, rfl, true, rfl, iteT ?_⟩⟩
    refine ⟨(by show 2 ≤ sizeLine; decide), fun p np => ⟨_, rfl, _, _, rfl, rfl, p, _, _, _, rfl, rfl, SqL.of upd_same, rfl, f4, 24, _, _, rfl, V_brackets_in, by decide, _, rfl, d, v, rfl, Dat.mono (Same.new np _) d v hd, fun c => ?_, fun c H1 g1 C hC => ?_⟩⟩
    · obtain ⟨wy, w1, w2, w3⟩ := way_in c (Dat.mono (Same.new np _) d v hd) ok
      refine ⟨wy, w1, w2, fun y H1 g1 => ?_⟩
      have z := q H1 ((Same.new np _).trans g1)
      rw [told_way (by decide), if_neg (neF c)] at z
      exact ⟨_, rfl, rfl, true, rfl, iteT z⟩
    · cases hC
      refine ⟨XC.uNoWay, fun ea ne => ?_⟩
      exact ⟨_, rfl, _, rfl, rfl, false, rfl, iteF ⟨_, rfl, ea, _, 2, _, rfl, upd_same, D2, rfl, fun H2 g2 => caught _ _ (by rw [told_way (by decide), if_pos c]) H1 ((Same.new np _).trans g1) ea ne H2 g2⟩⟩
  · refine ⟨_, rfl, _, _, rfl, rfl, false, rfl, iteF ⟨_, rfl, _, _, rfl, rfl, false, rfl, iteF ⟨_, rfl, _, _, rfl, rfl, true, rfl, iteT ?_⟩⟩⟩
    refine ⟨(by show 2 ≤ sizeLine; decide), fun p np => ⟨_, rfl, _, _, rfl, rfl, p, _, _, _, rfl, rfl, SqL.of upd_same, rfl, f5, 4, _, _, rfl, V_how_many_ways, by decide, _, rfl, _, rfl, d, v, e, u, rfl, Dat.mono (Same.new np _) d v hd, Dat.mono (Same.new np _) e u he, fun c C hC => ?_, fun c => ⟨fun c2 C hC => ?_, fun c2 m em H1 g1 => ?_⟩⟩⟩
    · cases hC
      refine ⟨XC.uNoSigns, fun ea ne => ?_⟩
      exact ⟨_, rfl, _, rfl, rfl, false, rfl, iteF ⟨_, rfl, ea, _, 1, _, rfl, upd_same, D1, rfl, fun H2 g2 => caught _ _ (by rw [told_4, if_pos c]) _ (Same.new np _) ea ne H2 g2⟩⟩
    · cases hC
      refine ⟨XC.uNoNumber, fun ea ne => ?_⟩
      exact ⟨_, rfl, _, rfl, rfl, false, rfl, iteF ⟨_, rfl, ea, _, 3, _, rfl, upd_same, D3, rfl, fun H2 g2 => caught _ _ (by rw [told_4, if_neg (neF c), if_pos c2]) _ (Same.new np _) ea ne H2 g2⟩⟩
    · have z := q H1 ((Same.new np _).trans g1)
      rw [told_4, if_neg (neF c), if_neg (neF c2)] at z
      exact ⟨_, rfl, rfl, true, rfl, iteT z⟩
  · refine ⟨_, rfl, _, _, rfl, rfl, false, rfl, iteF ⟨_, rfl, _, _, rfl, rfl, false, rfl, iteF ⟨_, rfl, _, _, rfl, rfl, true, rfl, iteT ?_⟩⟩⟩
    refine ⟨(by show 2 ≤ sizeLine; decide), fun p np => ⟨_, rfl, _, _, rfl, rfl, p, _, _, _, rfl, rfl, SqL.of upd_same, rfl, f6, 32, _, _, rfl, V_number_of_way, by decide, _, rfl, _, rfl, d, v, e, u, rfl, Dat.mono (Same.new np _) d v hd, Dat.mono (Same.new np _) e u he, fun c H1 g1 C hC => ?_, fun c => ⟨fun c2 H1 g1 C hC => ?_, fun c2 z ez => ?_⟩⟩⟩
    · cases hC
      refine ⟨XC.uNoWay, fun ea ne => ?_⟩
      exact ⟨_, rfl, _, rfl, rfl, false, rfl, iteF ⟨_, rfl, ea, _, 2, _, rfl, upd_same, D2, rfl, fun H2 g2 => caught _ _ (by rw [told_5, if_pos c]) H1 ((Same.new np _).trans g1) ea ne H2 g2⟩⟩
    · cases hC
      refine ⟨XC.uNoSigns, fun ea ne => ?_⟩
      exact ⟨_, rfl, _, rfl, rfl, false, rfl, iteF ⟨_, rfl, ea, _, 1, _, rfl, upd_same, D1, rfl, fun H2 g2 => caught _ _ (by rw [told_5, if_neg (neF c), if_pos c2]) H1 ((Same.new np _).trans g1) ea ne H2 g2⟩⟩
    · obtain ⟨wy, w1, w2, w3⟩ := way_in c (Dat.mono (Same.new np _) d v hd) ok
      have es : sgA (fun y => match e with | .str z => hasS z y | _ => true) d = wy.sgs.all fun g => hasS z g.str := by subst ez; rw [w3]; exact sgA_wy _ wy
      refine ⟨wy, w1, w2, fun c3 H1 g1 C hC => ?_, fun c3 y H1 g1 => ?_⟩
      · cases hC
        refine ⟨XC.uNoFit, fun ea ne => ?_⟩
        exact ⟨_, rfl, _, rfl, rfl, false, rfl, iteF ⟨_, rfl, ea, _, 5, _, rfl, upd_same, D5, rfl, fun H2 g2 => caught _ _ (by rw [told_5, if_neg (neF c), if_neg (neF c2), if_pos (es.trans c3)]) H1 ((Same.new np _).trans g1) ea ne H2 g2⟩⟩
      · have z := q H1 ((Same.new np _).trans g1)
        rw [told_5, if_neg (neF c), if_neg (neF c2), if_neg (neF (es.trans c3))] at z
        exact ⟨_, rfl, rfl, true, rfl, iteT z⟩
  · refine ⟨_, rfl, _, _, rfl, rfl, false, rfl, iteF ⟨_, rfl, _, _, rfl, rfl, false, rfl, iteF ⟨_, rfl, _, _, rfl, rfl, false, rfl, iteF ?_⟩⟩⟩
    refine ⟨_, rfl, _, rfl, _, rfl, d, v, e, u, b, x, rfl, hd, he, hb, fun c H1 g1 C hC => ?_, fun c => ⟨fun c2 H1 g1 C hC => ?_, fun c2 => ⟨fun c3 H1 g1 C hC => ?_, fun c3 y H1 g1 => ?_⟩⟩⟩
    · cases hC
      refine ⟨XC.uNoRow, fun ea ne => ?_⟩
      exact ⟨_, rfl, _, rfl, rfl, false, rfl, iteF ⟨_, rfl, ea, _, 0, _, rfl, upd_same, D0, rfl, fun H2 g2 => caught _ _ (by rw [told_6, if_pos c]) H1 (g1) ea ne H2 g2⟩⟩
    · cases hC
      refine ⟨XC.uNoSigns, fun ea ne => ?_⟩
      exact ⟨_, rfl, _, rfl, rfl, false, rfl, iteF ⟨_, rfl, ea, _, 1, _, rfl, upd_same, D1, rfl, fun H2 g2 => caught _ _ (by rw [told_6, if_neg (neF c), if_pos c2]) H1 (g1) ea ne H2 g2⟩⟩
    · cases hC
      refine ⟨XC.uNoNumber, fun ea ne => ?_⟩
      exact ⟨_, rfl, _, rfl, rfl, false, rfl, iteF ⟨_, rfl, ea, _, 3, _, rfl, upd_same, D3, rfl, fun H2 g2 => caught _ _ (by rw [told_6, if_neg (neF c), if_neg (neF c2), if_pos c3]) H1 (g1) ea ne H2 g2⟩⟩
    · have z := q H1 (g1)
      rw [told_6, if_neg (neF c), if_neg (neF c2), if_neg (neF c3)] at z
      exact ⟨_, rfl, rfl, true, rfl, iteT z⟩
end
end Put
set_option Elab.async false
set_option linter.all false
set_option maxRecDepth 100000
set_option maxHeartbeats 4000000
namespace Put
open PySem L2
def PrD (d : PyData) : Prop := d.showable = true ∧ d.depth ≤ 50 ∧ d.shown.length ≤ 100000
theorem pr5 {d e w b n : PyData} (h1 : PrD d) (h2 : PrD e) (h3 : PrD w) (h4 : PrD b) (h5 : PrD n) : (PyData.list [d, e, w, b, n]).showable = true ∧ (PyData.list [d, e, w, b, n]).depth ≤ 60 ∧ (PyData.list [d, e, w, b, n]).shown.length ≤ sizeLine := by
  obtain ⟨a1, a2, a3⟩ := h1
  obtain ⟨b1, b2, b3⟩ := h2
  obtain ⟨c1, c2, c3⟩ := h3
  obtain ⟨d1, d2, d3⟩ := h4
  obtain ⟨e1, e2, e3⟩ := h5
  refine ⟨?_, ?_, ?_⟩
  · simp only [PyData.showable, PyData.showableAll, a1, b1, c1, d1, e1, Bool.and_self]
  · simp only [PyData.depth, PyData.depthAll]; omega
  · have z := listText_len_le (PyData.shownAll [d, e, w, b, n])
    simp only [PyData.shown]
    simp only [PyData.shownAll, List.map_cons, List.map_nil, List.sum_cons, List.sum_nil, List.length_cons, List.length_nil] at z ⊢
    exact Nat.le_trans (show _ ≤ 600000 by omega) (by rw [sizeLine_eq]; decide)
theorem pr_ok {d : PyData} (h : OkD d) (hs : szD d ≤ 900) (hd : d.depth ≤ 50) : PrD d := by
  have := ok_len d h
  exact ⟨ok_show d h, hd, by omega⟩
theorem at2 {c : Bool} {x y : V} : atI [x, y] (if c = true then 1 else 0) = some (if c = true then y else x) := by cases c <;> rfl
theorem wh_many (b : PyData) : wh3 1 9 b = isManyD b := by cases b <;> rfl
theorem wh_ok (N : Int) (b : PyData) : wh3 0 (N - 1) b = okN N b := by
  cases b with
  | int i =>
    show (decide (0 ≤ i) && decide (i ≤ N - 1)) = (decide (0 ≤ i) && decide (i < N))
    congr 1
    by_cases c : i < N
    · rw [decide_eq_true c, decide_eq_true (by omega)]
    · rw [decide_eq_false c, decide_eq_false (by omega)]
  | _ => rfl
theorem v_4 {e b x : PyData} : (if isSgsD e = true then (if wh3 1 9 b = true then V.str "told" else V.str "NoNumber") else V.str "NoSigns") = V.str (toldS 4 e b x) := by
  rw [told_4, wh_many]
  cases isSgsD e <;> cases isManyD b <;> rfl
section
variable {P : Program} {w : World} {K : PySem.W.Frag} {mg : Str → Option Value} {base : Heap} {f : Addr} {fd : FuncData}
def spRight7 : Sp := fun vs H Q _ => ∃ d v1 e v2 w v3 b v4 n v5, vs = [v1, v2, v3, v4, v5] ∧ Dat H d v1 ∧ Dat H e v2 ∧ Dat H w v3 ∧ Dat H b v4 ∧ Dat H n v5 ∧ OkD d ∧ OkD e ∧ OkD w ∧ szD w ≤ 900 ∧ PrD d ∧ PrD e ∧ PrD w ∧ PrD b ∧ PrD n ∧ ∀ H', Same H H' → Q (.bl true) H'
abbrev s__law_right : Stmt := top 64
theorem sc__law_right : FnScope ["row", "signs", "way", "many", "number", "kept", "inside", "due", "good", "word"] ["row", "signs", "way", "many", "number"] (defScope s__law_right) := ⟨rfl, rfl, rfl, by decide +kernel, rfl, by decide +kernel, by decide +kernel⟩
theorem ok_right {aS aN : Addr} (F : Fun K "_law_right" "_law_right" s__law_right f fd) (B : Bu K mg) (C__law_signs_in : Cal P w K mg base "_law_signs_in" 1 ["thing"] spSgIn) (C__law_told : Cal P w K mg base "_law_told" 44 ["way", "one", "other", "third"] spTold) (C__law_is_signs : Cal P w K mg base "_law_is_signs" 1 ["thing"] spLIsSigns) (C__law_whole : Cal P w K mg base "_law_whole" 1 ["thing", "low", "high"] spLWhole3) (C__law_is_row : Cal P w K mg base "_law_is_row" 1 ["thing"] spIsRow) (C_how_many_ways : Cal P w K mg base "how_many_ways" 4 ["signs", "many"] (spDown (spHow1 aS aN))) : FnOk P w K mg base CX0 45 f fd ["row", "signs", "way", "many", "number"] spRight7 := by
  refine F.ok sc__law_right (fun vs H Q E h => ?_) (fun cdv A outer s H vs Q E hr h => ?_)
  · obtain ⟨d, v1, e, v2, w, v3, b, v4, n, v5, rfl, _⟩ := h
    rfl
  obtain ⟨d, v1, e, v2, w, v3, b, v4, n, v5, rfl, hd, he, hw, hb, hn, okd, oke, okw, hsz, pd, pe, pw, pb, pn, q⟩ := h
  refine ⟨_, (@pss_cons _ _ _ _ _ (@ps_set _ _ (5) _ _ _ _ (sc__law_right).nd rfl (Or.inl rfl) (@pe_callB _ _ _ _ _ _ _ _ _ (@call_repr _ hr.gd hr.units) rfl B.irepr PyProof.Rows.boot_repr (@pa_cons _ _ _ _ _ (@pe_lst _ _ _ _ (@pa_cons _ _ _ _ _ (@pv _ 0 _ _ (by rfl) (by first | exact Or.inl rfl | exact Or.inr ( Or.inl rfl ) | exact Or.inr ( Or.inr rfl )) (by decide) (by decide)) (@pa_cons _ _ _ _ _ (@pv _ 1 _ _ (by rfl) (by first | exact Or.inl rfl | exact Or.inr ( Or.inl rfl ) | exact Or.inr ( Or.inr rfl )) (by decide) (by decide)) (@pa_cons _ _ _ _ _ (@pv _ 2 _ _ (by rfl) (by first | exact Or.inl rfl | exact Or.inr ( Or.inl rfl ) | exact Or.inr ( Or.inr rfl )) (by decide) (by decide)) (@pa_cons _ _ _ _ _ (@pv _ 3 _ _ (by rfl) (by first | exact Or.inl rfl | exact Or.inr ( Or.inl rfl ) | exact Or.inr ( Or.inr rfl )) (by decide) (by decide)) (@pa_cons _ _ _ _ _ (@pv _ 4 _ _ (by rfl) (by first | exact Or.inl rfl | exact Or.inr ( Or.inl rfl ) | exact Or.inr ( Or.inr rfl )) (by decide) (by decide)) pa_nil (by rfl)) (by rfl)) (by rfl)) (by rfl)) (by rfl))) pa_nil (by rfl)) (by decide) (by decide) (by rfl) (by rfl)) (by rfl) (by first | exact .inl rfl | exact .inr rfl | assumption)) (@pss_cons _ _ _ _ _ (@ps_set _ _ (6) _ _ _ _ (sc__law_right).nd rfl (Or.inl rfl) (@pe_cal _ _ _ _ _ _ _ _ _ _ _ C__law_signs_in hr (by omega) rfl (@pa_cons _ _ _ _ _ (@pv _ 2 _ _ (by rfl) (by first | exact Or.inl rfl | exact Or.inr ( Or.inl rfl ) | exact Or.inr ( Or.inr rfl )) (by decide) (by decide)) pa_nil (by rfl)) (by decide) (by rfl) (by rfl)) (by rfl) (by first | exact .inl rfl | exact .inr rfl | assumption)) (@pss_cons _ _ _ _ _ (@ps_set _ _ (7) _ _ _ _ (sc__law_right).nd rfl (Or.inr rfl) (@pe_ix _ _ _ _ _ _ _ ix_list (@pe_lst _ _ _ _ (@pa_cons _ _ _ _ _ pe_str (@pa_cons _ _ _ _ _ pe_str pa_nil (by rfl)) (by rfl))) (@pe_callTy _ _ _ _ _ _ _ _ _ call_int1 rfl B.iint PyProof.Rows.boot_int (@pa_cons _ _ _ _ _ (@pe_cmpR _ _ _ _ _ _ _ _ op_notN (@pv _ 6 _ _ (by rfl) (by first | exact Or.inl rfl | exact Or.inr ( Or.inl rfl ) | exact Or.inr ( Or.inr rfl )) (by decide) (by decide)) pe_non (nomark _)) pa_nil (by rfl)) (by decide) (by decide) (by rfl) (by rfl)) (fun _ _ => rfl)) (by rfl) (by first | exact .inl rfl | exact .inr rfl | assumption)) (@pss_cons _ _ _ _ _ (@ps_if _ _ _ _ _ _ _ _ (@pt_cmpR _ _ _ _ _ _ _ _ (@op_neL _ hr.units) (@pe_lc _ _ _ _ _ _ _ _ (["door", "due", "way"]) ([none, some 7, some 2]) _ _ _ _ rfl (@pi_range1 _ _ _ _ _ _ rfl B.irange (@pa_cons _ _ _ _ _ pe_int pa_nil (by rfl)) (by rfl)) rfl ⟨rfl, ⟨rfl, trivial⟩⟩ ⟨⟨rfl, Or.inl rfl, Or.inl rfl⟩, ⟨⟨rfl, Or.inl rfl, Or.inl rfl⟩, trivial⟩⟩ (fun _ _ _ _ => ⟨(@pg_name _ _ (0) _ (show List.Nodup (["door", "due", "way"] : List Str) by decide +kernel) rfl (Or.inl rfl) (by first | exact .inl rfl | exact .inr rfl | assumption)), (@pifs_one _ _ _ (@pt_cmpR _ _ _ _ _ _ _ _ op_ne (@pe_cal _ _ _ _ _ _ _ _ _ _ _ C__law_told hr (by omega) rfl (@pa_cons _ _ _ _ _ (@pv _ 0 _ _ (by rfl) (by first | exact Or.inl rfl | exact Or.inr ( Or.inl rfl ) | exact Or.inr ( Or.inr rfl )) (by decide) (by decide)) (@pa_cons _ _ _ _ _ (@pv _ 2 _ _ (by rfl) (by first | exact Or.inl rfl | exact Or.inr ( Or.inl rfl ) | exact Or.inr ( Or.inr rfl )) (by decide) (by decide)) (@pa_cons _ _ _ _ _ pe_int (@pa_cons _ _ _ _ _ pe_int pa_nil (by rfl)) (by rfl)) (by rfl)) (by rfl)) (by decide) (by rfl) (by rfl)) (@pv _ 1 _ _ (by rfl) (by first | exact Or.inl rfl | exact Or.inr ( Or.inl rfl ) | exact Or.inr ( Or.inr rfl )) (by decide) (by decide)) (nomark _))), (@pv _ 0 _ _ (by rfl) (by first | exact Or.inl rfl | exact Or.inr ( Or.inl rfl ) | exact Or.inr ( Or.inr rfl )) (by decide) (by decide))⟩) (by rfl) (by rfl) (by rfl) (by rfl) (by intro _; rfl)) (@pe_lst _ _ _ _ pa_nil) (nomark _)) (@pss_one _ _ _ (@ps_ret _ _ _ _ pe_bl)) pss_nil) (@pss_cons _ _ _ _ _ (@ps_set _ _ (8) _ _ _ _ (sc__law_right).nd rfl (Or.inl rfl) (@pe_cal _ _ _ _ _ _ _ _ _ _ _ C__law_is_signs hr (by omega) rfl (@pa_cons _ _ _ _ _ (@pv _ 1 _ _ (by rfl) (by first | exact Or.inl rfl | exact Or.inr ( Or.inl rfl ) | exact Or.inr ( Or.inr rfl )) (by decide) (by decide)) pa_nil (by rfl)) (by decide) (by rfl) (by rfl)) (by rfl) (by first | exact .inl rfl | exact .inr rfl | assumption)) (@pss_cons _ _ _ _ _ (@ps_set _ _ (9) _ _ _ _ (sc__law_right).nd rfl (Or.inl rfl) (@pe_ix _ _ _ _ _ _ _ ix_list (@pe_lst _ _ _ _ (@pa_cons _ _ _ _ _ pe_str (@pa_cons _ _ _ _ _ pe_str pa_nil (by rfl)) (by rfl))) (@pe_callTy _ _ _ _ _ _ _ _ _ call_int1 rfl B.iint PyProof.Rows.boot_int (@pa_cons _ _ _ _ _ (@pe_cal _ _ _ _ _ _ _ _ _ _ _ C__law_whole hr (by omega) rfl (@pa_cons _ _ _ _ _ (@pv _ 3 _ _ (by rfl) (by first | exact Or.inl rfl | exact Or.inr ( Or.inl rfl ) | exact Or.inr ( Or.inr rfl )) (by decide) (by decide)) (@pa_cons _ _ _ _ _ pe_int (@pa_cons _ _ _ _ _ pe_int pa_nil (by rfl)) (by rfl)) (by rfl)) (by decide) (by rfl) (by rfl)) pa_nil (by rfl)) (by decide) (by decide) (by rfl) (by rfl)) (fun _ _ => rfl)) (by rfl) (by first | exact .inl rfl | exact .inr rfl | assumption)) (@pss_cons _ _ _ _ _ (@ps_if _ _ _ _ _ _ _ _ (@pt_cmpR _ _ _ _ _ _ _ _ op_ne (@pe_cal _ _ _ _ _ _ _ _ _ _ _ C__law_told hr (by omega) rfl (@pa_cons _ _ _ _ _ pe_int (@pa_cons _ _ _ _ _ (@pv _ 1 _ _ (by rfl) (by first | exact Or.inl rfl | exact Or.inr ( Or.inl rfl ) | exact Or.inr ( Or.inr rfl )) (by decide) (by decide)) (@pa_cons _ _ _ _ _ (@pv _ 3 _ _ (by rfl) (by first | exact Or.inl rfl | exact Or.inr ( Or.inl rfl ) | exact Or.inr ( Or.inr rfl )) (by decide) (by decide)) (@pa_cons _ _ _ _ _ pe_int pa_nil (by rfl)) (by rfl)) (by rfl)) (by rfl)) (by decide) (by rfl) (by rfl)) (@pe_ix _ _ _ _ _ _ _ ix_list (@pe_lst _ _ _ _ (@pa_cons _ _ _ _ _ pe_str (@pa_cons _ _ _ _ _ (@pv _ 9 _ _ (by rfl) (by first | exact Or.inl rfl | exact Or.inr ( Or.inl rfl ) | exact Or.inr ( Or.inr rfl )) (by decide) (by decide)) pa_nil (by rfl)) (by rfl))) (@pe_callTy _ _ _ _ _ _ _ _ _ call_int1 rfl B.iint PyProof.Rows.boot_int (@pa_cons _ _ _ _ _ (@pv _ 8 _ _ (by rfl) (by first | exact Or.inl rfl | exact Or.inr ( Or.inl rfl ) | exact Or.inr ( Or.inr rfl )) (by decide) (by decide)) pa_nil (by rfl)) (by decide) (by decide) (by rfl) (by rfl)) (fun _ _ => rfl)) (nomark _)) (@pss_one _ _ _ (@ps_ret _ _ _ _ pe_bl)) pss_nil) (@pss_cons _ _ _ _ _ (@ps_if _ _ _ _ _ _ _ _ (@pt_cmpR _ _ _ _ _ _ _ _ op_notN (@pv _ 6 _ _ (by rfl) (by first | exact Or.inl rfl | exact Or.inr ( Or.inl rfl ) | exact Or.inr ( Or.inr rfl )) (by decide) (by decide)) pe_non (nomark _)) (@pss_cons _ _ _ _ _ (@ps_set _ _ (7) _ _ _ _ (sc__law_right).nd rfl (Or.inr rfl) pe_str (by rfl) (by first | exact .inl rfl | exact .inr rfl | assumption)) (@pss_one _ _ _ (@ps_if _ _ _ _ _ _ _ _ (@pt_truth _ _ _ (@pv _ 8 _ _ (by rfl) (by first | exact Or.inl rfl | exact Or.inr ( Or.inl rfl ) | exact Or.inr ( Or.inr rfl )) (by decide) (by decide)) (fun _ => rfl)) (@pss_one _ _ _ (@ps_set _ _ (7) _ _ _ _ (sc__law_right).nd rfl (Or.inr rfl) (@pe_ix _ _ _ _ _ _ _ ix_list (@pe_lst _ _ _ _ (@pa_cons _ _ _ _ _ pe_str (@pa_cons _ _ _ _ _ pe_str pa_nil (by rfl)) (by rfl))) (@pe_callTy _ _ _ _ _ _ _ _ _ call_int1 rfl B.iint PyProof.Rows.boot_int (@pa_cons _ _ _ _ _ (@pe_cmpR _ _ _ _ _ _ _ _ (@op_eqL _ hr.units) (@pe_lc _ _ _ _ _ _ _ _ (["sign", "signs"]) ([none, some 1]) _ _ _ _ rfl (@pi_str _ _ _ _ (@pv _ 6 _ _ (by rfl) (by first | exact Or.inl rfl | exact Or.inr ( Or.inl rfl ) | exact Or.inr ( Or.inr rfl )) (by decide) (by decide))) rfl ⟨rfl, trivial⟩ ⟨⟨rfl, Or.inl rfl, Or.inl rfl⟩, trivial⟩ (fun _ _ _ _ => ⟨(@pg_name _ _ (0) _ (show List.Nodup (["sign", "signs"] : List Str) by decide +kernel) rfl (Or.inl rfl) (by first | exact .inl rfl | exact .inr rfl | assumption)), (@pifs_one _ _ _ (@pt_cmpR _ _ _ _ _ _ _ _ op_notIn_str (@pv _ 0 _ _ (by rfl) (by first | exact Or.inl rfl | exact Or.inr ( Or.inl rfl ) | exact Or.inr ( Or.inr rfl )) (by decide) (by decide)) (@pv _ 1 _ _ (by rfl) (by first | exact Or.inl rfl | exact Or.inr ( Or.inl rfl ) | exact Or.inr ( Or.inr rfl )) (by decide) (by decide)) (by with_unfolding_all rfl))), (@pv _ 0 _ _ (by rfl) (by first | exact Or.inl rfl | exact Or.inr ( Or.inl rfl ) | exact Or.inr ( Or.inr rfl )) (by decide) (by decide))⟩) (by rfl) (by rfl) (by rfl) (by rfl) (by intro _; rfl)) (@pe_lst _ _ _ _ pa_nil) (nomark _)) pa_nil (by rfl)) (by decide) (by decide) (by rfl) (by rfl)) (fun _ _ => rfl)) (by rfl) (by first | exact .inl rfl | exact .inr rfl | assumption))) pss_nil))) pss_nil) (@pss_cons _ _ _ _ _ (@ps_if _ _ _ _ _ _ _ _ (@pt_cmpR _ _ _ _ _ _ _ _ op_ne (@pe_cal _ _ _ _ _ _ _ _ _ _ _ C__law_told hr (by omega) rfl (@pa_cons _ _ _ _ _ pe_int (@pa_cons _ _ _ _ _ (@pv _ 2 _ _ (by rfl) (by first | exact Or.inl rfl | exact Or.inr ( Or.inl rfl ) | exact Or.inr ( Or.inr rfl )) (by decide) (by decide)) (@pa_cons _ _ _ _ _ (@pv _ 1 _ _ (by rfl) (by first | exact Or.inl rfl | exact Or.inr ( Or.inl rfl ) | exact Or.inr ( Or.inr rfl )) (by decide) (by decide)) (@pa_cons _ _ _ _ _ pe_int pa_nil (by rfl)) (by rfl)) (by rfl)) (by rfl)) (by decide) (by rfl) (by rfl)) (@pv _ 7 _ _ (by rfl) (by first | exact Or.inl rfl | exact Or.inr ( Or.inl rfl ) | exact Or.inr ( Or.inr rfl )) (by decide) (by decide)) (nomark _)) (@pss_one _ _ _ (@ps_ret _ _ _ _ pe_bl)) pss_nil) (@pss_cons _ _ _ _ _ (@ps_set _ _ (7) _ _ _ _ (sc__law_right).nd rfl (Or.inr rfl) pe_str (by rfl) (by first | exact .inl rfl | exact .inr rfl | assumption)) (@pss_cons _ _ _ _ _ (@ps_if _ _ _ _ _ _ _ _ (@pt_val _ _ _ (@pe_cal _ _ _ _ _ _ _ _ _ _ _ C__law_is_row hr (by omega) rfl (@pa_cons _ _ _ _ _ (@pv _ 0 _ _ (by rfl) (by first | exact Or.inl rfl | exact Or.inr ( Or.inl rfl ) | exact Or.inr ( Or.inr rfl )) (by decide) (by decide)) pa_nil (by rfl)) (by decide) (by rfl) (by rfl)) (by intro _; rfl)) (@pss_cons _ _ _ _ _ (@ps_set _ _ (7) _ _ _ _ (sc__law_right).nd rfl (Or.inr rfl) pe_str (by rfl) (by first | exact .inl rfl | exact .inr rfl | assumption)) (@pss_one _ _ _ (@ps_if _ _ _ _ _ _ _ _ (@pt_truth _ _ _ (@pv _ 8 _ _ (by rfl) (by first | exact Or.inl rfl | exact Or.inr ( Or.inl rfl ) | exact Or.inr ( Or.inr rfl )) (by decide) (by decide)) (fun _ => rfl)) (@pss_one _ _ _ (@ps_set _ _ (7) _ _ _ _ (sc__law_right).nd rfl (Or.inr rfl) (@pe_ix _ _ _ _ _ _ _ ix_list (@pe_lst _ _ _ _ (@pa_cons _ _ _ _ _ pe_str (@pa_cons _ _ _ _ _ pe_str pa_nil (by rfl)) (by rfl))) (@pe_callTy _ _ _ _ _ _ _ _ _ call_int1 rfl B.iint PyProof.Rows.boot_int (@pa_cons _ _ _ _ _ (@pe_cal _ _ _ _ _ _ _ _ _ _ _ C__law_whole hr (by omega) rfl (@pa_cons _ _ _ _ _ (@pv _ 4 _ _ (by rfl) (by first | exact Or.inl rfl | exact Or.inr ( Or.inl rfl ) | exact Or.inr ( Or.inr rfl )) (by decide) (by decide)) (@pa_cons _ _ _ _ _ pe_int (@pa_cons _ _ _ _ _ (@pe_op _ _ _ _ _ _ _ _ op_sub (@pe_cal _ _ _ _ _ _ _ _ _ _ _ C_how_many_ways hr (by omega) rfl (@pa_cons _ _ _ _ _ (@pv _ 1 _ _ (by rfl) (by first | exact Or.inl rfl | exact Or.inr ( Or.inl rfl ) | exact Or.inr ( Or.inr rfl )) (by decide) (by decide)) (@pa_cons _ _ _ _ _ (@pe_callB _ _ _ _ _ _ _ _ _ call_len_seq rfl B.ilen PySem.boot_len (@pa_cons _ _ _ _ _ (@pv _ 0 _ _ (by rfl) (by first | exact Or.inl rfl | exact Or.inr ( Or.inl rfl ) | exact Or.inr ( Or.inr rfl )) (by decide) (by decide)) pa_nil (by rfl)) (by decide) (by decide) (by rfl) (by rfl)) pa_nil (by rfl)) (by rfl)) (by decide) (by rfl) (by rfl)) pe_int) pa_nil (by rfl)) (by rfl)) (by rfl)) (by decide) (by rfl) (by rfl)) pa_nil (by rfl)) (by decide) (by decide) (by rfl) (by rfl)) (fun _ _ => rfl)) (by rfl) (by first | exact .inl rfl | exact .inr rfl | assumption))) pss_nil))) pss_nil) (@pss_one _ _ _ (@ps_ret _ _ _ _ (@pe_and _ _ _ _ _ _ _ (@pe_cmpR _ _ _ _ _ _ _ _ op_eq (@pe_cal _ _ _ _ _ _ _ _ _ _ _ C__law_told hr (by omega) rfl (@pa_cons _ _ _ _ _ pe_int (@pa_cons _ _ _ _ _ (@pv _ 0 _ _ (by rfl) (by first | exact Or.inl rfl | exact Or.inr ( Or.inl rfl ) | exact Or.inr ( Or.inr rfl )) (by decide) (by decide)) (@pa_cons _ _ _ _ _ (@pv _ 1 _ _ (by rfl) (by first | exact Or.inl rfl | exact Or.inr ( Or.inl rfl ) | exact Or.inr ( Or.inr rfl )) (by decide) (by decide)) (@pa_cons _ _ _ _ _ (@pv _ 4 _ _ (by rfl) (by first | exact Or.inl rfl | exact Or.inr ( Or.inl rfl ) | exact Or.inr ( Or.inr rfl )) (by decide) (by decide)) pa_nil (by rfl)) (by rfl)) (by rfl)) (by rfl)) (by decide) (by rfl) (by rfl)) (@pv _ 7 _ _ (by rfl) (by first | exact Or.inl rfl | exact Or.inr ( Or.inl rfl ) | exact Or.inr ( Or.inr rfl )) (by decide) (by decide)) (nomark _)) (@pe_one _ _ _ _ _ (@pe_cmpR _ _ _ _ _ _ _ _ op_eq (@pe_callB _ _ _ _ _ _ _ _ _ (@call_repr _ hr.gd hr.units) rfl B.irepr PyProof.Rows.boot_repr (@pa_cons _ _ _ _ _ (@pe_lst _ _ _ _ (@pa_cons _ _ _ _ _ (@pv _ 0 _ _ (by rfl) (by first | exact Or.inl rfl | exact Or.inr ( Or.inl rfl ) | exact Or.inr ( Or.inr rfl )) (by decide) (by decide)) (@pa_cons _ _ _ _ _ (@pv _ 1 _ _ (by rfl) (by first | exact Or.inl rfl | exact Or.inr ( Or.inl rfl ) | exact Or.inr ( Or.inr rfl )) (by decide) (by decide)) (@pa_cons _ _ _ _ _ (@pv _ 2 _ _ (by rfl) (by first | exact Or.inl rfl | exact Or.inr ( Or.inl rfl ) | exact Or.inr ( Or.inr rfl )) (by decide) (by decide)) (@pa_cons _ _ _ _ _ (@pv _ 3 _ _ (by rfl) (by first | exact Or.inl rfl | exact Or.inr ( Or.inl rfl ) | exact Or.inr ( Or.inr rfl )) (by decide) (by decide)) (@pa_cons _ _ _ _ _ (@pv _ 4 _ _ (by rfl) (by first | exact Or.inl rfl | exact Or.inr ( Or.inl rfl ) | exact Or.inr ( Or.inr rfl )) (by decide) (by decide)) pa_nil (by rfl)) (by rfl)) (by rfl)) (by rfl)) (by rfl))) pa_nil (by rfl)) (by decide) (by decide) (by rfl) (by rfl)) (@pv _ 5 _ _ (by rfl) (by first | exact Or.inl rfl | exact Or.inr ( Or.inl rfl ) | exact Or.inr ( Or.inr rfl )) (by decide) (by decide)) (nomark _))))))))))))))))), ?_⟩
  obtain ⟨s1, s2, s3⟩ := pr5 pd pe pw pb pn
  have D5 : ∀ p H1, Same H H1 → H1 p = some (.lst [v1, v2, v3, v4, v5]) → Dat H1 (.list [d, e, w, b, n]) (.ref p) := fun p H1 g1 e1 => by
    simp only [Dat, DatAll]
    exact ⟨p, _, rfl, e1, _, _, rfl, Dat.mono g1 d v1 hd, _, _, rfl, Dat.mono g1 e v2 he, _, _, rfl, Dat.mono g1 w v3 hw, _, _, rfl, Dat.mono g1 b v4 hb, _, _, rfl, Dat.mono g1 n v5 hn, rfl⟩
  have two : (2 : Nat) ≤ sizeLine := by decide
  refine ⟨_, rfl, _, rfl, _, rfl, _, rfl, _, rfl, (by show 5 ≤ sizeLine; decide), fun p np => ⟨_, .list [d, e, w, b, n], rfl, D5 _ _ (Same.new np _) upd_same, s1, s2, s3, ?_⟩⟩
  have g1 := Same.new np (.lst [v1, v2, v3, v4, v5])
  refine ⟨_, rfl, w, v3, rfl, Dat.mono g1 w v3 hw, hsz, fun c1 H2 g2 => ?_, fun c1 fs H2 g2 fl fp => ?_⟩
  · refine ⟨two, fun p3 n3 => ⟨_, rfl, rfl, .inr ⟨false, rfl, p3, _, _, _, rfl, rfl, SqL.of upd_same, rfl, ?_⟩⟩⟩
    have G3 := (g1.trans g2).trans (Same.new n3 (.lst [.str "NoWay", .str "told"]))
    refine ⟨4, rfl, by decide, by decide, lc_range (n := 4) (fun j ys H' => ys = [] ∧ Same H H') ⟨rfl, G3⟩ ?_ ?_ ?_⟩
    · rintro j ys H' _ ⟨rfl, _⟩
      exact small1000 (by decide)
    · rintro j ys H' hj ⟨rfl, S'⟩ nx
      refine ⟨_, rfl, _, rfl, 0 + (j : Int), w, v3, .int 0, _, .int 0, _, rfl, by omega, by omega, Dat.mono S' w v3 hw, (by simp only [Dat]), (by simp only [Dat]), okw, fun H4 g4 => ?_⟩
      rw [told_way (by omega), if_pos c1]
      exact ⟨_, rfl, rfl, _, rfl, iteNS rfl (nx ⟨rfl, S'.trans g4⟩)⟩
    rintro ys H4 ⟨rfl, S4⟩ p5 n5
    have G5 := S4.trans (Same.new n5 (.lst []))
    refine ⟨(by show 0 ≤ sizeLine; decide), fun p6 n6 => ?_⟩
    have g6 := Same.new n6 (.lst [])
    refine ⟨0, p5, p6, [], [], by decide, rfl, rfl, SqL.of (g6 _ _ upd_same), SqL.of upd_same, .inr ⟨fun _ => true, rfl, (fun j x y h => by simp at h), false, rfl, iteF ?_⟩⟩
    have G6 := G5.trans g6
    refine ⟨_, rfl, e, v2, rfl, Dat.mono G6 e v2 he, fun H7 g7 => ?_⟩
    have G7 := G6.trans g7
    refine ⟨two, fun p8 n8 => ⟨_, rfl, b, v4, 1, 9, rfl, Dat.mono (G7.trans (Same.new n8 _)) b v4 hb, .inr ⟨_, rfl, p8, _, _, _, rfl, rfl, SqL.of upd_same, at2, ?_⟩⟩⟩
    have G8 := G7.trans (Same.new n8 (.lst [.str "NoNumber", .str "told"]))
    refine ⟨_, rfl, _, rfl, 4, e, v2, b, v4, .int 0, _, rfl, by decide, by decide, Dat.mono G8 e v2 he, Dat.mono G8 b v4 hb, (by simp only [Dat]), oke, fun H9 g9 => ?_⟩
    have G9 := G8.trans g9
    refine ⟨_, rfl, two, fun p10 n10 => ⟨_, rfl, .inr ⟨_, rfl, p10, _, _, _, rfl, rfl, SqL.of upd_same, at2, ?_⟩⟩⟩
    have G10 := G9.trans (Same.new n10 (.lst [.str "NoSigns", if wh3 1 9 b = true then V.str "told" else V.str "NoNumber"]))
    rw [v_4 (x := .int 0)]
    refine ⟨rfl, _, rfl, iteNS rfl ?_⟩
    refine ⟨_, rfl, rfl, false, rfl, iteF ?_⟩
    refine ⟨_, rfl, _, rfl, 5, w, v3, e, v2, .int 0, _, rfl, by decide, by decide, Dat.mono G10 w v3 hw, Dat.mono G10 e v2 he, (by simp only [Dat]), okw, fun H12 g12 => ?_⟩
    have G12 := G10.trans g12
    rw [told_5, if_pos c1]
    refine ⟨_, rfl, rfl, _, rfl, iteNS rfl ?_⟩
    cases c2 : isSgsD e with
    | false =>
      refine ⟨_, rfl, d, v1, rfl, Dat.mono G12 d v1 hd, fun H13 g13 => ⟨isRowD d, rfl, ?_⟩⟩
      have G13 := G12.trans g13
      cases c3 : isRowD d with
      | false =>
        refine iteF ?_
        refine ⟨_, rfl, _, rfl, _, rfl, 6, d, v1, e, v2, n, v5, rfl, by decide, by decide, Dat.mono G13 d v1 hd, Dat.mono G13 e v2 he, Dat.mono G13 n v5 hn, okd, fun H16 g16 => ?_⟩
        have G16 := G13.trans g16
        rw [told_6, if_pos c3]
        refine ⟨_, rfl, rfl, true, congrArg V.bl (decide_eq_true rfl), iteT ?_⟩
        refine ⟨_, rfl, _, rfl, _, rfl, _, rfl, _, rfl, (by show 5 ≤ sizeLine; decide), fun p17 n17 => ⟨_, .list [d, e, w, b, n], rfl, D5 _ _ (G16.trans (Same.new n17 _)) upd_same, s1, s2, s3, _, rfl, rfl, ?_⟩⟩
        have zz := q _ (G16.trans (Same.new n17 (.lst [v1, v2, v3, v4, v5])))
        show Q (.bl (decide (V.str (PyData.list [d, e, w, b, n]).shown = V.str (PyData.list [d, e, w, b, n]).shown))) _
        rw [decide_eq_true rfl]; exact zz
      | true =>
        refine iteT ?_
        refine ⟨_, rfl, false, rfl, iteF ?_⟩
        refine ⟨_, rfl, _, rfl, _, rfl, 6, d, v1, e, v2, n, v5, rfl, by decide, by decide, Dat.mono G13 d v1 hd, Dat.mono G13 e v2 he, Dat.mono G13 n v5 hn, okd, fun H16 g16 => ?_⟩
        have G16 := G13.trans g16
        rw [told_6, if_neg (neF c3), if_pos c2]
        refine ⟨_, rfl, rfl, true, congrArg V.bl (decide_eq_true rfl), iteT ?_⟩
        refine ⟨_, rfl, _, rfl, _, rfl, _, rfl, _, rfl, (by show 5 ≤ sizeLine; decide), fun p17 n17 => ⟨_, .list [d, e, w, b, n], rfl, D5 _ _ (G16.trans (Same.new n17 _)) upd_same, s1, s2, s3, _, rfl, rfl, ?_⟩⟩
        have zz := q _ (G16.trans (Same.new n17 (.lst [v1, v2, v3, v4, v5])))
        show Q (.bl (decide (V.str (PyData.list [d, e, w, b, n]).shown = V.str (PyData.list [d, e, w, b, n]).shown))) _
        rw [decide_eq_true rfl]; exact zz
    | true =>
      refine ⟨_, rfl, d, v1, rfl, Dat.mono G12 d v1 hd, fun H13 g13 => ⟨isRowD d, rfl, ?_⟩⟩
      have G13 := G12.trans g13
      cases c3 : isRowD d with
      | false =>
        refine iteF ?_
        refine ⟨_, rfl, _, rfl, _, rfl, 6, d, v1, e, v2, n, v5, rfl, by decide, by decide, Dat.mono G13 d v1 hd, Dat.mono G13 e v2 he, Dat.mono G13 n v5 hn, okd, fun H16 g16 => ?_⟩
        have G16 := G13.trans g16
        rw [told_6, if_pos c3]
        refine ⟨_, rfl, rfl, true, congrArg V.bl (decide_eq_true rfl), iteT ?_⟩
        refine ⟨_, rfl, _, rfl, _, rfl, _, rfl, _, rfl, (by show 5 ≤ sizeLine; decide), fun p17 n17 => ⟨_, .list [d, e, w, b, n], rfl, D5 _ _ (G16.trans (Same.new n17 _)) upd_same, s1, s2, s3, _, rfl, rfl, ?_⟩⟩
        have zz := q _ (G16.trans (Same.new n17 (.lst [v1, v2, v3, v4, v5])))
        show Q (.bl (decide (V.str (PyData.list [d, e, w, b, n]).shown = V.str (PyData.list [d, e, w, b, n]).shown))) _
        rw [decide_eq_true rfl]; exact zz
      | true =>
        refine iteT ?_
        refine ⟨_, rfl, true, rfl, iteT ?_⟩
        obtain ⟨a, ns, ev1, ha, l1, l9, lr⟩ := row_in c3 hd
        refine ⟨two, fun p14 n14 => ?_⟩
        have G14 := G13.trans (Same.new n14 (.lst [.str "NoNumber", .str "told"]))
        refine ⟨_, rfl, _, rfl, _, rfl, a, _, (by rw [ev1]), .inl (SqL.of (G14 _ _ ha)), ?_⟩
        rw [List.length_map]
        refine ⟨e, v2, .int (ns.length : Nat), _, rfl, Dat.mono G14 e v2 he, (by simp only [Dat]), fun c => absurd c (neF c2), fun _ => ⟨fun c => absurd c (neF (by show (decide (1 ≤ ((ns.length : Nat) : Int)) && decide (((ns.length : Nat) : Int) ≤ 9)) = true; rw [decide_eq_true (by omega), decide_eq_true (by omega)]; rfl)), fun _ m em H15 g15 => ?_⟩⟩
        obtain rfl : ((ns.length : Nat) : Int) = m := by injection em
        have G15 := G14.trans g15
        refine ⟨_, _, rfl, rfl, n, v5, 0, _, rfl, Dat.mono G15 n v5 hn, .inr ⟨_, rfl, p14, _, _, _, rfl, rfl, SqL.of (g15 _ _ upd_same), at2, ?_⟩⟩
        have e6 : (if wh3 0 (cn (sgl e) ((ns.length : Nat) : Int).toNat - 1) n = true then V.str "told" else V.str "NoNumber") = V.str (toldS 6 d e n) := by
          rw [told_6, if_neg (neF c3), if_neg (neF c2), wh_ok, show ((ns.length : Nat) : Int).toNat = rlen d by rw [← lr]; rfl]
          cases okN (cn (sgl e) (rlen d)) n <;> rfl
        rw [e6]
        refine ⟨_, rfl, _, rfl, _, rfl, 6, d, v1, e, v2, n, v5, rfl, by decide, by decide, Dat.mono G15 d v1 hd, Dat.mono G15 e v2 he, Dat.mono G15 n v5 hn, okd, fun H16 g16 => ?_⟩
        have G16 := G15.trans g16
        skip
        refine ⟨_, rfl, rfl, true, congrArg V.bl (decide_eq_true rfl), iteT ?_⟩
        refine ⟨_, rfl, _, rfl, _, rfl, _, rfl, _, rfl, (by show 5 ≤ sizeLine; decide), fun p17 n17 => ⟨_, .list [d, e, w, b, n], rfl, D5 _ _ (G16.trans (Same.new n17 _)) upd_same, s1, s2, s3, _, rfl, rfl, ?_⟩⟩
        have zz := q _ (G16.trans (Same.new n17 (.lst [v1, v2, v3, v4, v5])))
        show Q (.bl (decide (V.str (PyData.list [d, e, w, b, n]).shown = V.str (PyData.list [d, e, w, b, n]).shown))) _
        rw [decide_eq_true rfl]; exact zz
  · refine ⟨two, fun p3 n3 => ⟨_, rfl, rfl, .inr ⟨true, rfl, p3, _, _, _, rfl, rfl, SqL.of upd_same, rfl, ?_⟩⟩⟩
    have G3 := (g1.trans g2).trans (Same.new n3 (.lst [.str "NoWay", .str "told"]))
    refine ⟨4, rfl, by decide, by decide, lc_range (n := 4) (fun j ys H' => ys = [] ∧ Same H H') ⟨rfl, G3⟩ ?_ ?_ ?_⟩
    · rintro j ys H' _ ⟨rfl, _⟩
      exact small1000 (by decide)
    · rintro j ys H' hj ⟨rfl, S'⟩ nx
      refine ⟨_, rfl, _, rfl, 0 + (j : Int), w, v3, .int 0, _, .int 0, _, rfl, by omega, by omega, Dat.mono S' w v3 hw, (by simp only [Dat]), (by simp only [Dat]), okw, fun H4 g4 => ?_⟩
      rw [told_way (by omega), if_neg (neF c1)]
      exact ⟨_, rfl, rfl, _, rfl, iteNS rfl (nx ⟨rfl, S'.trans g4⟩)⟩
    rintro ys H4 ⟨rfl, S4⟩ p5 n5
    have G5 := S4.trans (Same.new n5 (.lst []))
    refine ⟨(by show 0 ≤ sizeLine; decide), fun p6 n6 => ?_⟩
    have g6 := Same.new n6 (.lst [])
    refine ⟨0, p5, p6, [], [], by decide, rfl, rfl, SqL.of (g6 _ _ upd_same), SqL.of upd_same, .inr ⟨fun _ => true, rfl, (fun j x y h => by simp at h), false, rfl, iteF ?_⟩⟩
    have G6 := G5.trans g6
    refine ⟨_, rfl, e, v2, rfl, Dat.mono G6 e v2 he, fun H7 g7 => ?_⟩
    have G7 := G6.trans g7
    refine ⟨two, fun p8 n8 => ⟨_, rfl, b, v4, 1, 9, rfl, Dat.mono (G7.trans (Same.new n8 _)) b v4 hb, .inr ⟨_, rfl, p8, _, _, _, rfl, rfl, SqL.of upd_same, at2, ?_⟩⟩⟩
    have G8 := G7.trans (Same.new n8 (.lst [.str "NoNumber", .str "told"]))
    refine ⟨_, rfl, _, rfl, 4, e, v2, b, v4, .int 0, _, rfl, by decide, by decide, Dat.mono G8 e v2 he, Dat.mono G8 b v4 hb, (by simp only [Dat]), oke, fun H9 g9 => ?_⟩
    have G9 := G8.trans g9
    refine ⟨_, rfl, two, fun p10 n10 => ⟨_, rfl, .inr ⟨_, rfl, p10, _, _, _, rfl, rfl, SqL.of upd_same, at2, ?_⟩⟩⟩
    have G10 := G9.trans (Same.new n10 (.lst [.str "NoSigns", if wh3 1 9 b = true then V.str "told" else V.str "NoNumber"]))
    rw [v_4 (x := .int 0)]
    refine ⟨rfl, _, rfl, iteNS rfl ?_⟩
    refine ⟨_, rfl, rfl, true, rfl, iteT ?_⟩
    cases c2 : isSgsD e with
    | false =>
      refine ⟨_, rfl, false, rfl, iteF ?_⟩
      refine ⟨_, rfl, _, rfl, 5, w, v3, e, v2, .int 0, _, rfl, by decide, by decide, Dat.mono G10 w v3 hw, Dat.mono G10 e v2 he, (by simp only [Dat]), okw, fun H12 g12 => ?_⟩
      have G12 := G10.trans g12
      rw [told_5, if_neg (neF c1), if_pos c2]
      refine ⟨_, rfl, rfl, _, rfl, iteNS rfl ?_⟩
      refine ⟨_, rfl, d, v1, rfl, Dat.mono G12 d v1 hd, fun H13 g13 => ⟨isRowD d, rfl, ?_⟩⟩
      have G13 := G12.trans g13
      cases c3 : isRowD d with
      | false =>
        refine iteF ?_
        refine ⟨_, rfl, _, rfl, _, rfl, 6, d, v1, e, v2, n, v5, rfl, by decide, by decide, Dat.mono G13 d v1 hd, Dat.mono G13 e v2 he, Dat.mono G13 n v5 hn, okd, fun H16 g16 => ?_⟩
        have G16 := G13.trans g16
        rw [told_6, if_pos c3]
        refine ⟨_, rfl, rfl, true, congrArg V.bl (decide_eq_true rfl), iteT ?_⟩
        refine ⟨_, rfl, _, rfl, _, rfl, _, rfl, _, rfl, (by show 5 ≤ sizeLine; decide), fun p17 n17 => ⟨_, .list [d, e, w, b, n], rfl, D5 _ _ (G16.trans (Same.new n17 _)) upd_same, s1, s2, s3, _, rfl, rfl, ?_⟩⟩
        have zz := q _ (G16.trans (Same.new n17 (.lst [v1, v2, v3, v4, v5])))
        show Q (.bl (decide (V.str (PyData.list [d, e, w, b, n]).shown = V.str (PyData.list [d, e, w, b, n]).shown))) _
        rw [decide_eq_true rfl]; exact zz
      | true =>
        refine iteT ?_
        refine ⟨_, rfl, false, rfl, iteF ?_⟩
        refine ⟨_, rfl, _, rfl, _, rfl, 6, d, v1, e, v2, n, v5, rfl, by decide, by decide, Dat.mono G13 d v1 hd, Dat.mono G13 e v2 he, Dat.mono G13 n v5 hn, okd, fun H16 g16 => ?_⟩
        have G16 := G13.trans g16
        rw [told_6, if_neg (neF c3), if_pos c2]
        refine ⟨_, rfl, rfl, true, congrArg V.bl (decide_eq_true rfl), iteT ?_⟩
        refine ⟨_, rfl, _, rfl, _, rfl, _, rfl, _, rfl, (by show 5 ≤ sizeLine; decide), fun p17 n17 => ⟨_, .list [d, e, w, b, n], rfl, D5 _ _ (G16.trans (Same.new n17 _)) upd_same, s1, s2, s3, _, rfl, rfl, ?_⟩⟩
        have zz := q _ (G16.trans (Same.new n17 (.lst [v1, v2, v3, v4, v5])))
        show Q (.bl (decide (V.str (PyData.list [d, e, w, b, n]).shown = V.str (PyData.list [d, e, w, b, n]).shown))) _
        rw [decide_eq_true rfl]; exact zz
    | true =>
      refine ⟨_, rfl, true, rfl, iteT ?_⟩
      obtain ⟨z, rfl⟩ := sgs_str c2
      have e2 : v2 = .str z := by simpa only [Dat] using he
      subst e2
      refine ⟨two, fun p11 n11 => ?_⟩
      have G11 := G10.trans (Same.new n11 (.lst [.str "NoFit", .str "told"]))
      have e11 := upd_same (H := upd H9 p10 (.lst [.str "NoSigns", if wh3 1 9 b = true then V.str "told" else V.str "NoNumber"])) (a := p11) (o := .lst [.str "NoFit", .str "told"])
      revert G11 e11
      generalize upd (upd H9 p10 (.lst [.str "NoSigns", if wh3 1 9 b = true then V.str "told" else V.str "NoNumber"])) p11 (.lst [.str "NoFit", .str "told"]) = H11
      intro G11 e11
      refine ⟨_, rfl, _, rfl, sgText_asc _, lc_str (fun i ys H' => H11 = H' ∧ ys.length ≤ i ∧ (ys.isEmpty = (fs.take i).all fun g => hasS z g.str)) ⟨rfl, Nat.le_refl _, rfl⟩ ?_ ?_ ?_⟩
      · rintro i ys H' hi ⟨rfl, yl, _⟩
        rw [sgText_size] at hi
        exact small1000 (by omega)
      · rintro i c ys H' hc ⟨rfl, yl, ye⟩ nx
        obtain ⟨g, hg, rfl⟩ := sgText_at hc
        have e1 : ((fs.take (i + 1)).all fun g => hasS z g.str) = (((fs.take i).all fun g => hasS z g.str) && hasS z g.str) := by
          rw [List.take_add_one, hg, List.all_append]
          show (_ && (hasS z g.str && true)) = _
          rw [Bool.and_true]
        refine ⟨_, rfl, _, rfl, _, _, rfl, rfl, ?_⟩
        rw [← Sg.str_ch]
        cases c4 : hasS z g.str with
        | true => exact ⟨false, congrArg (fun b => V.bl (!b)) c4, iteF (nx ⟨rfl, by omega, by rw [e1, ye, c4, Bool.and_true]⟩)⟩
        | false => exact ⟨true, congrArg (fun b => V.bl (!b)) c4, iteT ⟨_, rfl, nx ⟨rfl, by rw [List.length_append]; simp; exact yl, by rw [e1, c4, Bool.and_false]; simp⟩⟩⟩
      rintro ys H' ⟨rfl, yl, ye⟩ p18 n18
      rw [sgText_size, List.take_length] at ye
      have G18 := G11.trans (Same.new n18 (.lst ys))
      refine ⟨(by show 0 ≤ sizeLine; decide), fun p19 n19 => ?_⟩
      have g19 := Same.new n19 (.lst [])
      have G19 := G18.trans g19
      have e18 := g19 p18 (.lst ys) upd_same
      have e20 := (Same.new n18 (.lst ys)).trans g19 _ _ e11
      have es : ys.isEmpty = sgA (hasS z) w := ye.trans (fp (hasS z))
      have e5 : (if ys.isEmpty = true then V.str "told" else V.str "NoFit") = V.str (toldS 5 w (.str z) (.int 0)) := by
        rw [told_5, if_neg (neF c1), if_neg (neF c2), es]
        show _ = V.str (if sgA (hasS z) w = false then ("NoFit" : Str) else ("told" : Str))
        cases sgA (hasS z) w <;> rfl
      have hv : ∃ cc : Bool, cc = ys.isEmpty := ⟨_, rfl⟩
      refine ⟨0, p18, p19, ys, [], by decide, rfl, rfl, SqL.of e18, SqL.of upd_same, ?_⟩
      cases ys with
      | nil =>
        refine .inr ⟨fun _ => true, rfl, (fun j x y h => by simp at h), .inr ⟨true, rfl, p11, _, _, _, rfl, rfl, SqL.of e20, rfl, ?_⟩⟩
        have e5' : V.str "told" = V.str (toldS 5 w (.str z) (.int 0)) := e5
        have e5t := (V.str.inj e5').symm
        refine ⟨_, rfl, _, rfl, 5, w, v3, .str z, _, .int 0, _, rfl, by decide, by decide, Dat.mono G19 w v3 hw, Dat.mono G19 (.str z) _ he, (by simp only [Dat]), okw, fun H12 g12 => ?_⟩
        have G12 := G19.trans g12
        rw [e5t]
        refine ⟨_, rfl, rfl, _, rfl, iteNS rfl ?_⟩
        refine ⟨_, rfl, d, v1, rfl, Dat.mono G12 d v1 hd, fun H13 g13 => ⟨isRowD d, rfl, ?_⟩⟩
        have G13 := G12.trans g13
        cases c3 : isRowD d with
        | false =>
          refine iteF ?_
          refine ⟨_, rfl, _, rfl, _, rfl, 6, d, v1, .str z, _, n, v5, rfl, by decide, by decide, Dat.mono G13 d v1 hd, Dat.mono G13 (.str z) _ he, Dat.mono G13 n v5 hn, okd, fun H16 g16 => ?_⟩
          have G16 := G13.trans g16
          rw [told_6, if_pos c3]
          refine ⟨_, rfl, rfl, true, congrArg V.bl (decide_eq_true rfl), iteT ?_⟩
          refine ⟨_, rfl, _, rfl, _, rfl, _, rfl, _, rfl, (by show 5 ≤ sizeLine; decide), fun p17 n17 => ⟨_, .list [d, .str z, w, b, n], rfl, D5 _ _ (G16.trans (Same.new n17 _)) upd_same, s1, s2, s3, _, rfl, rfl, ?_⟩⟩
          have zz := q _ (G16.trans (Same.new n17 (.lst [v1, .str z, v3, v4, v5])))
          show Q (.bl (decide (V.str (PyData.list [d, .str z, w, b, n]).shown = V.str (PyData.list [d, .str z, w, b, n]).shown))) _
          rw [decide_eq_true rfl]; exact zz
        | true =>
          refine iteT ?_
          refine ⟨_, rfl, true, rfl, iteT ?_⟩
          obtain ⟨a, ns, ev1, ha, l1, l9, lr⟩ := row_in c3 hd
          refine ⟨two, fun p14 n14 => ?_⟩
          have G14 := G13.trans (Same.new n14 (.lst [.str "NoNumber", .str "told"]))
          refine ⟨_, rfl, _, rfl, _, rfl, a, _, (by rw [ev1]), .inl (SqL.of (G14 _ _ ha)), ?_⟩
          rw [List.length_map]
          refine ⟨.str z, _, .int (ns.length : Nat), _, rfl, Dat.mono G14 (.str z) _ he, (by simp only [Dat]), fun c => absurd c (neF c2), fun _ => ⟨fun c => absurd c (neF (by show (decide (1 ≤ ((ns.length : Nat) : Int)) && decide (((ns.length : Nat) : Int) ≤ 9)) = true; rw [decide_eq_true (by omega), decide_eq_true (by omega)]; rfl)), fun _ m em H15 g15 => ?_⟩⟩
          obtain rfl : ((ns.length : Nat) : Int) = m := by injection em
          have G15 := G14.trans g15
          refine ⟨_, _, rfl, rfl, n, v5, 0, _, rfl, Dat.mono G15 n v5 hn, .inr ⟨_, rfl, p14, _, _, _, rfl, rfl, SqL.of (g15 _ _ upd_same), at2, ?_⟩⟩
          have e6 : (if wh3 0 (cn (sgl (.str z)) ((ns.length : Nat) : Int).toNat - 1) n = true then V.str "told" else V.str "NoNumber") = V.str (toldS 6 d (.str z) n) := by
            rw [told_6, if_neg (neF c3), if_neg (neF c2), wh_ok, show ((ns.length : Nat) : Int).toNat = rlen d by rw [← lr]; rfl]
            cases okN (cn (sgl (.str z)) (rlen d)) n <;> rfl
          rw [e6]
          refine ⟨_, rfl, _, rfl, _, rfl, 6, d, v1, .str z, _, n, v5, rfl, by decide, by decide, Dat.mono G15 d v1 hd, Dat.mono G15 (.str z) _ he, Dat.mono G15 n v5 hn, okd, fun H16 g16 => ?_⟩
          have G16 := G15.trans g16
          skip
          refine ⟨_, rfl, rfl, true, congrArg V.bl (decide_eq_true rfl), iteT ?_⟩
          refine ⟨_, rfl, _, rfl, _, rfl, _, rfl, _, rfl, (by show 5 ≤ sizeLine; decide), fun p17 n17 => ⟨_, .list [d, .str z, w, b, n], rfl, D5 _ _ (G16.trans (Same.new n17 _)) upd_same, s1, s2, s3, _, rfl, rfl, ?_⟩⟩
          have zz := q _ (G16.trans (Same.new n17 (.lst [v1, .str z, v3, v4, v5])))
          show Q (.bl (decide (V.str (PyData.list [d, .str z, w, b, n]).shown = V.str (PyData.list [d, .str z, w, b, n]).shown))) _
          rw [decide_eq_true rfl]; exact zz
      | cons y r =>
        refine .inl ⟨by simp, .inr ⟨false, rfl, p11, _, _, _, rfl, rfl, SqL.of e20, rfl, ?_⟩⟩
        have e5' : V.str "NoFit" = V.str (toldS 5 w (.str z) (.int 0)) := e5
        have e5t := (V.str.inj e5').symm
        refine ⟨_, rfl, _, rfl, 5, w, v3, .str z, _, .int 0, _, rfl, by decide, by decide, Dat.mono G19 w v3 hw, Dat.mono G19 (.str z) _ he, (by simp only [Dat]), okw, fun H12 g12 => ?_⟩
        have G12 := G19.trans g12
        rw [e5t]
        refine ⟨_, rfl, rfl, _, rfl, iteNS rfl ?_⟩
        refine ⟨_, rfl, d, v1, rfl, Dat.mono G12 d v1 hd, fun H13 g13 => ⟨isRowD d, rfl, ?_⟩⟩
        have G13 := G12.trans g13
        cases c3 : isRowD d with
        | false =>
          refine iteF ?_
          refine ⟨_, rfl, _, rfl, _, rfl, 6, d, v1, .str z, _, n, v5, rfl, by decide, by decide, Dat.mono G13 d v1 hd, Dat.mono G13 (.str z) _ he, Dat.mono G13 n v5 hn, okd, fun H16 g16 => ?_⟩
          have G16 := G13.trans g16
          rw [told_6, if_pos c3]
          refine ⟨_, rfl, rfl, true, congrArg V.bl (decide_eq_true rfl), iteT ?_⟩
          refine ⟨_, rfl, _, rfl, _, rfl, _, rfl, _, rfl, (by show 5 ≤ sizeLine; decide), fun p17 n17 => ⟨_, .list [d, .str z, w, b, n], rfl, D5 _ _ (G16.trans (Same.new n17 _)) upd_same, s1, s2, s3, _, rfl, rfl, ?_⟩⟩
          have zz := q _ (G16.trans (Same.new n17 (.lst [v1, .str z, v3, v4, v5])))
          show Q (.bl (decide (V.str (PyData.list [d, .str z, w, b, n]).shown = V.str (PyData.list [d, .str z, w, b, n]).shown))) _
          rw [decide_eq_true rfl]; exact zz
        | true =>
          refine iteT ?_
          refine ⟨_, rfl, true, rfl, iteT ?_⟩
          obtain ⟨a, ns, ev1, ha, l1, l9, lr⟩ := row_in c3 hd
          refine ⟨two, fun p14 n14 => ?_⟩
          have G14 := G13.trans (Same.new n14 (.lst [.str "NoNumber", .str "told"]))
          refine ⟨_, rfl, _, rfl, _, rfl, a, _, (by rw [ev1]), .inl (SqL.of (G14 _ _ ha)), ?_⟩
          rw [List.length_map]
          refine ⟨.str z, _, .int (ns.length : Nat), _, rfl, Dat.mono G14 (.str z) _ he, (by simp only [Dat]), fun c => absurd c (neF c2), fun _ => ⟨fun c => absurd c (neF (by show (decide (1 ≤ ((ns.length : Nat) : Int)) && decide (((ns.length : Nat) : Int) ≤ 9)) = true; rw [decide_eq_true (by omega), decide_eq_true (by omega)]; rfl)), fun _ m em H15 g15 => ?_⟩⟩
          obtain rfl : ((ns.length : Nat) : Int) = m := by injection em
          have G15 := G14.trans g15
          refine ⟨_, _, rfl, rfl, n, v5, 0, _, rfl, Dat.mono G15 n v5 hn, .inr ⟨_, rfl, p14, _, _, _, rfl, rfl, SqL.of (g15 _ _ upd_same), at2, ?_⟩⟩
          have e6 : (if wh3 0 (cn (sgl (.str z)) ((ns.length : Nat) : Int).toNat - 1) n = true then V.str "told" else V.str "NoNumber") = V.str (toldS 6 d (.str z) n) := by
            rw [told_6, if_neg (neF c3), if_neg (neF c2), wh_ok, show ((ns.length : Nat) : Int).toNat = rlen d by rw [← lr]; rfl]
            cases okN (cn (sgl (.str z)) (rlen d)) n <;> rfl
          rw [e6]
          refine ⟨_, rfl, _, rfl, _, rfl, 6, d, v1, .str z, _, n, v5, rfl, by decide, by decide, Dat.mono G15 d v1 hd, Dat.mono G15 (.str z) _ he, Dat.mono G15 n v5 hn, okd, fun H16 g16 => ?_⟩
          have G16 := G15.trans g16
          skip
          refine ⟨_, rfl, rfl, true, congrArg V.bl (decide_eq_true rfl), iteT ?_⟩
          refine ⟨_, rfl, _, rfl, _, rfl, _, rfl, _, rfl, (by show 5 ≤ sizeLine; decide), fun p17 n17 => ⟨_, .list [d, .str z, w, b, n], rfl, D5 _ _ (G16.trans (Same.new n17 _)) upd_same, s1, s2, s3, _, rfl, rfl, ?_⟩⟩
          have zz := q _ (G16.trans (Same.new n17 (.lst [v1, .str z, v3, v4, v5])))
          show Q (.bl (decide (V.str (PyData.list [d, .str z, w, b, n]).shown = V.str (PyData.list [d, .str z, w, b, n]).shown))) _
          rw [decide_eq_true rfl]; exact zz
end
end Put
set_option Elab.async false
set_option linter.all false
set_option maxRecDepth 100000
set_option maxHeartbeats 8000000
namespace Put
open PySem L2
theorem cut_some (ns : List Int) (lo hi : Option Int) : ∃ ms : List Int, cutV (ns.map V.int) lo hi = ms.map V.int ∧ ms.length ≤ ns.length := by
  refine ⟨(ns.drop (HT.sIx ns.length 0 lo)).take (HT.sIx ns.length ns.length hi - HT.sIx ns.length 0 lo), ?_, ?_⟩
  · unfold cutV
    rw [List.length_map, List.map_take, List.map_drop]
  · rw [List.length_take, List.length_drop]; omega
theorem But.same {H H1 H2 : Hp} {wl : Addr} (s : Same H H1) (n : H wl = none) (b : But wl H1 H2) : Same H H2 := fun c o h => b c o (ne_of_none h n) (s c o h)
theorem pr_int {i : Int} (h : i.natAbs < 10 ^ 40) : PrD (.int i) := by
  refine ⟨?_, by simp [PyData.depth], ?_⟩
  · have z : (10 : Nat) ^ 40 < 2 ^ 140 := by decide
    have : i.natAbs.log2 < 140 := by
      by_cases c : i.natAbs = 0
      · rw [c]; decide
      · exact (Nat.log2_lt c).mpr (by omega)
    simp only [PyData.showable]; exact decide_eq_true (by omega)
  · have e := int_text_length_le10 (a := i) (k := 40) (by decide) h
    show (Str.ofString (toString i)).length ≤ 100000
    rw [ofString_length]; omega
def Gp (H : Hp) (u : V) : Prop := ∃ e, Dat H e u ∧ PrD e
def Gw (H : Hp) (v : V) : Prop := ∃ d, Dat H d v ∧ OkD d ∧ szD d ≤ 900 ∧ PrD d
theorem Gw.gp {H : Hp} {v : V} (h : Gw H v) : Gp H v := by obtain ⟨d, a, _, _, b⟩ := h; exact ⟨d, a, b⟩
theorem Gp.mono {H H' : Hp} (g : Same H H') {u : V} (h : Gp H u) : Gp H' u := by obtain ⟨e, a, b⟩ := h; exact ⟨e, Dat.mono g e u a, b⟩
theorem Gw.mono {H H' : Hp} (g : Same H H') {u : V} (h : Gw H u) : Gw H' u := by obtain ⟨e, a, b⟩ := h; exact ⟨e, Dat.mono g e u a, b⟩
theorem gw_ok {H : Hp} {d : PyData} {u : V} (hd : Dat H d u) (ok : OkD d) (hs : szD d ≤ 900) (hp : d.depth ≤ 50) : Gw H u := ⟨d, hd, ok, hs, pr_ok ok hs hp⟩
def GpA (H : Hp) (xs : List V) : Prop := ∀ u ∈ xs, Gp H u
def GwA (H : Hp) (xs : List V) : Prop := ∀ u ∈ xs, Gw H u
theorem GpA.nil {H : Hp} : GpA H [] := fun _ h => nomatch h
theorem GpA.cons {H : Hp} {v : V} {us : List V} (h : Gp H v) (k : GpA H us) : GpA H (v :: us) := fun x hx => by
  rcases List.mem_cons.mp hx with e | e
  · rw [e]; exact h
  · exact k x e
theorem GwA.nil {H : Hp} : GwA H [] := fun _ h => nomatch h
theorem GwA.cons {H : Hp} {v : V} {us : List V} (h : Gw H v) (k : GwA H us) : GwA H (v :: us) := fun x hx => by
  rcases List.mem_cons.mp hx with e | e
  · rw [e]; exact h
  · exact k x e
theorem pick {xs : List V} {r : Int} (h0 : 0 ≤ r) (h1 : r < xs.length) : ∃ u, atI xs r = some u ∧ u ∈ xs := by
  obtain ⟨j, rfl⟩ : ∃ j : Nat, r = (j : Int) := ⟨r.toNat, by omega⟩
  have hj : j < xs.length := by omega
  exact ⟨xs[j], atI_nat (List.getElem?_eq_getElem hj), List.getElem_mem hj⟩
theorem gp_int {H : Hp} (i : Int) (h : i.natAbs < 10 ^ 40) : Gp H (.int i) := ⟨.int i, by simp only [Dat], pr_int h⟩
theorem gp_bl {H : Hp} (b : Bool) : Gp H (.bl b) := (gw_ok (d := .bool b) (by simp only [Dat]) (by simp only [OkD]) (by simp [szD]) (by simp [PyData.depth])).gp
theorem gp_non {H : Hp} : Gp H .non := (gw_ok (d := .none) (by simp only [Dat]) (by simp only [OkD]) (by simp [szD]) (by simp [PyData.depth])).gp
theorem gp_str {H : Hp} (x : Str) (h : (reprText x).length ≤ 20) : Gp H (.str x) := (gw_ok (d := .str x) (by simp only [Dat]) (by simp only [OkD]; exact h) (by simp [szD]) (by simp [PyData.depth])).gp
section
variable {P : Program} {w : World} {K : PySem.W.Frag} {mg : Str → Option Value} {base : Heap} {f : Addr} {fd : FuncData}
theorem gw_wy {H : Hp} {wl : Addr} {M : Int} {wy : Wy} {v : V} (hw : Wel H wl M) (h : WyIn H wy v) (sm : wy.Sm) (sz : wy.size ≤ 20) : Gw (off wl H) v := by
  have a := wy_sz wy; have b := wy_depth wy; have c := wy.deep_le
  exact gw_ok (WyIn.off hw h) (wy_ok wy sm) (by omega) (by omega)
def sevG : List (List Sg) := [[.plus], [.minus], [.times], [.plus, .minus], [.plus, .times], [.minus, .times], [.plus, .minus, .times]]
theorem sev_all {gs : List Sg} (h : gs ∈ sevG) : isSgsD (.str (sgText gs)) = true ∧ 1 ≤ gs.length ∧ gs.length ≤ 3 ∧ (reprText (sgText gs)).length ≤ 20 ∧ (reprText (sgText gs ++ "+")).length ≤ 20 ∧ (reprText ("*" ++ sgText gs)).length ≤ 20 ∧ (reprText (sgText gs ++ " ")).length ≤ 20 ∧ (reprText (revS (sgText gs))).length ≤ 20 ∧ (revS (sgText gs)).length ≤ 1000 := by
  have h' : gs = [.plus] ∨ gs = [.minus] ∨ gs = [.times] ∨ gs = [.plus, .minus] ∨ gs = [.plus, .times] ∨ gs = [.minus, .times] ∨ gs = [.plus, .minus, .times] := by simpa [sevG] using h
  rcases h' with rfl | rfl | rfl | rfl | rfl | rfl | rfl <;> decide +kernel
theorem at9s {k : Int} (h0 : 0 ≤ k) (h1 : k < 9) : ∃ gs : List Sg, atI [V.str "+-*", .str "+-*", .str "+-*", .str "+", .str "-", .str "*", .str "+-", .str "+*", .str "-*"] k = some (.str (sgText gs)) ∧ gs ∈ sevG := by
  have : k = 0 ∨ k = 1 ∨ k = 2 ∨ k = 3 ∨ k = 4 ∨ k = 5 ∨ k = 6 ∨ k = 7 ∨ k = 8 := by omega
  rcases this with rfl | rfl | rfl | rfl | rfl | rfl | rfl | rfl | rfl
  · exact ⟨[.plus, .minus, .times], by rfl, by simp [sevG]⟩
  · exact ⟨[.plus, .minus, .times], by rfl, by simp [sevG]⟩
  · exact ⟨[.plus, .minus, .times], by rfl, by simp [sevG]⟩
  · exact ⟨[.plus], by rfl, by simp [sevG]⟩
  · exact ⟨[.minus], by rfl, by simp [sevG]⟩
  · exact ⟨[.times], by rfl, by simp [sevG]⟩
  · exact ⟨[.plus, .minus], by rfl, by simp [sevG]⟩
  · exact ⟨[.plus, .times], by rfl, by simp [sevG]⟩
  · exact ⟨[.minus, .times], by rfl, by simp [sevG]⟩
def spLSg7 : Sp := fun vs H Q _ => ∃ w M, vs = [.ref w] ∧ Wel H w M ∧ M < 999990000 ∧ ∀ gs H', gs ∈ sevG → But w H H' → Wel H' w (M + 1) → Q (.str (sgText gs)) H'
theorem ok_law_signs7 (F : Fun K "_law_signs" "_law_signs" s__law_signs f fd) (C__law_draw : Cal P w K mg base "_law_draw" 2 ["well", "many"] spDraw) : FnOk P w K mg base CX0 3 f fd ["well"] spLSg7 := by
  refine F.ok sc__law_signs (fun vs H Q E h => ?_) (fun cdv A outer s H vs Q E hr h => ?_)
  · obtain ⟨x, M, rfl, _⟩ := h
    rfl
  obtain ⟨wl, M, rfl, hw, hM, q⟩ := h
  refine ⟨_, (@pss_one _ _ _ (@ps_ret _ _ _ _ (@pe_ix _ _ _ _ _ _ _ ix_list (@pe_lst _ _ _ _ (@pa_cons _ _ _ _ _ pe_str (@pa_cons _ _ _ _ _ pe_str (@pa_cons _ _ _ _ _ pe_str (@pa_cons _ _ _ _ _ pe_str (@pa_cons _ _ _ _ _ pe_str (@pa_cons _ _ _ _ _ pe_str (@pa_cons _ _ _ _ _ pe_str (@pa_cons _ _ _ _ _ pe_str (@pa_cons _ _ _ _ _ pe_str pa_nil (by rfl)) (by rfl)) (by rfl)) (by rfl)) (by rfl)) (by rfl)) (by rfl)) (by rfl)) (by rfl))) (@pe_cal _ _ _ _ _ _ _ _ _ _ _ C__law_draw hr (by omega) rfl (@pa_cons _ _ _ _ _ (@pv _ 0 _ _ (by rfl) (by first | exact Or.inl rfl | exact Or.inr ( Or.inl rfl ) | exact Or.inr ( Or.inr rfl )) (by decide) (by decide)) (@pa_cons _ _ _ _ _ pe_int pa_nil (by rfl)) (by rfl)) (by decide) (by rfl) (by rfl)) (fun _ _ => rfl)))), ?_⟩
  refine ⟨(by show 9 ≤ sizeLine; decide), fun p1 n1 => ?_⟩
  have w1 := hw.keep (Same.new n1 (.lst [.str "+-*", .str "+-*", .str "+-*", .str "+", .str "-", .str "*", .str "+-", .str "+*", .str "-*"])) (Int.le_refl _)
  refine ⟨_, rfl, wl, 9, _, rfl, by decide, by decide, w1, by omega, fun r1 H1 a1 b1 g1 w2 => ?_⟩
  obtain ⟨gs, hg, l1⟩ := at9s a1 b1
  exact ⟨p1, _, _, _, rfl, rfl, SqL.of (g1 _ _ (hw.ne n1) upd_same), hg, q gs H1 l1 ((But.new n1 _).trans g1) w2⟩
theorem gw_list {H : Hp} {p : Addr} {xs : List V} {ds : List PyData} (h : H p = some (.lst xs)) (hd : DatAll H ds xs) (ok : OkAll ds) (sz : szAll ds ≤ 800) (dp : PyData.depthAll ds ≤ 40) : Gw H (.ref p) :=
  gw_ok (d := .list ds) (by simp only [Dat]; exact ⟨p, xs, rfl, h, hd⟩) (by simp only [OkD]; exact ok) (by simp only [szD]; omega) (by simp only [PyData.depth]; omega)
theorem gw_tup {H : Hp} {p : Addr} {xs : List V} {ds : List PyData} (h : H p = some (.tup xs)) (hd : DatAll H ds xs) (ok : OkAll ds) (sz : szAll ds ≤ 800) (dp : PyData.depthAll ds ≤ 40) : Gw H (.ref p) :=
  gw_ok (d := .tuple ds) (by simp only [Dat]; exact ⟨p, xs, rfl, h, hd⟩) (by simp only [OkD]; exact ok) (by simp only [szD]; omega) (by simp only [PyData.depth]; omega)
theorem dat_int_list {H : Hp} : ∀ ns : List Int, DatAll H (ns.map PyData.int) (ns.map V.int)
  | [] => by simp only [List.map_nil, DatAll]
  | i :: ns => by
    simp only [List.map_cons, DatAll]
    exact ⟨_, _, rfl, by simp only [Dat], dat_int_list ns⟩
theorem ok_int_list : ∀ {ns : List Int}, Small ns → OkAll (ns.map PyData.int)
  | [], _ => by simp only [List.map_nil, OkAll]
  | i :: ns, h => by
    simp only [List.map_cons, OkAll, OkD]
    have := h i List.mem_cons_self
    have z : (10 : Nat) ^ 13 = 10000000000000 := by decide
    exact ⟨by omega, ok_int_list fun j hj => h j (List.mem_cons_of_mem _ hj)⟩
theorem sz_int_list : ∀ ns : List Int, szAll (ns.map PyData.int) = ns.length
  | [] => rfl
  | i :: ns => by simp only [List.map_cons, szAll, szD, sz_int_list ns, List.length_cons]; omega
theorem dp_int_list : ∀ ns : List Int, PyData.depthAll (ns.map PyData.int) = 0
  | [] => rfl
  | i :: ns => by simp only [List.map_cons, PyData.depthAll, PyData.depth, dp_int_list ns]; rfl
theorem ok_app : ∀ {a b : List PyData}, OkAll a → OkAll b → OkAll (a ++ b)
  | [], _, _, h => h
  | x :: a, b, h, k => by
    simp only [List.cons_append, OkAll] at h ⊢
    exact ⟨h.1, ok_app h.2 k⟩
theorem sz_app : ∀ a b : List PyData, szAll (a ++ b) = szAll a + szAll b
  | [], b => by simp [szAll]
  | x :: a, b => by simp only [List.cons_append, szAll, sz_app a b]; omega
theorem dp_app : ∀ a b : List PyData, PyData.depthAll (a ++ b) = max (PyData.depthAll a) (PyData.depthAll b)
  | [], b => by simp [PyData.depthAll]
  | x :: a, b => by simp only [List.cons_append, PyData.depthAll, dp_app a b]; omega
theorem Small.take {ns : List Int} (h : Small ns) (k : Nat) : Small (ns.take k) := fun i hi => h i (List.mem_of_mem_take hi)
theorem Small.drop {ns : List Int} (h : Small ns) (k : Nat) : Small (ns.drop k) := fun i hi => h i (List.mem_of_mem_drop hi)
theorem gw_ints {H : Hp} {p : Addr} {ns : List Int} (h : H p = some (.lst (ns.map V.int))) (sm : Small ns) (l : ns.length ≤ 100) : Gw H (.ref p) :=
  gw_list h (dat_int_list ns) (ok_int_list sm) (by rw [sz_int_list]; omega) (by rw [dp_int_list]; omega)
theorem gw_str {H : Hp} (x : Str) (h : (reprText x).length ≤ 20) : Gw H (.str x) := gw_ok (d := .str x) (by simp only [Dat]) (by simp only [OkD]; exact h) (by simp [szD]) (by simp [PyData.depth])
theorem gw_non {H : Hp} : Gw H .non := gw_ok (d := .none) (by simp only [Dat]) (by simp only [OkD]) (by simp [szD]) (by simp [PyData.depth])
def spLaw (K : PySem.W.Frag) : Sp := fun vs H Q _ => ∃ (a : Addr) (ns : List Int), vs = [.ref a] ∧ SqL K H a (ns.map V.int) ∧ ns.length ≤ 63 ∧ ∀ H', Q (.bl true) H'
abbrev s_law : Stmt := top 65
theorem sc_law : FnScope ["script", "cell", "well", "signs", "row", "way", "most", "turn", "at", "rows", "texts", "ways", "many", "number", "some", "text", "thing"] ["script"] (defScope s_law) := ⟨rfl, rfl, rfl, by decide +kernel, rfl, by decide +kernel, by decide +kernel⟩
theorem ok_law {aS aN : Addr} (F : Fun K "law" "law" s_law f fd) (B : Bu K mg) (C__law_well : Cal P w K mg base "_law_well" 1 ["cell"] spWell) (C__law_draw : Cal P w K mg base "_law_draw" 2 ["well", "many"] spDraw) (C__law_row : Cal P w K mg base "_law_row" 4 ["well", "many"] spRow)
    (C__law_signs : Cal P w K mg base "_law_signs" 3 ["well"] spLSg7) (C__law_way : Cal P w K mg base "_law_way" 22 ["well", "row", "signs"] (spWay 20)) (C__law_odd : Cal P w K mg base "_law_odd" 3 ["well"] spOdd) (C__law_bad_way : Cal P w K mg base "_law_bad_way" 13 ["well", "way"] (spBad 10)) (C_how_many_ways : Cal P w K mg base "how_many_ways" 4 ["signs", "many"] (spDown (spHow1 aS aN))) (C__law_right : Cal P w K mg base "_law_right" 45 ["row", "signs", "way", "many", "number"] spRight7) : FnOk P w K mg base CX0 46 f fd ["script"] (spLaw K) := by
  refine F.ok sc_law (fun vs H Q E h => ?_) (fun cdv A outer s H vs Q E hr h => ?_)
  · obtain ⟨a, ns, rfl, _⟩ := h
    rfl
  obtain ⟨a, ns, rfl, hS, h63, q⟩ := h
  refine ⟨_, (@pss_cons _ _ _ _ _ (@ps_for _ _ _ _ _ _ _ _ PassesOwn.never rfl (@pi_list _ _ _ _ (@pe_op _ _ _ _ _ _ _ _ op_cat (@pe_lst _ _ _ _ (@pa_cons _ _ _ _ _ pe_int pa_nil (by rfl))) (@pe_slice _ _ _ _ _ _ _ _ _ _ sl_list (@pv _ 0 _ _ (by rfl) (by first | exact Or.inl rfl | exact Or.inr ( Or.inl rfl ) | exact Or.inr ( Or.inr rfl )) (by decide) (by decide)) po_none (@po_some _ _ _ pe_int)))) (@pg_name _ _ (1) _ (sc_law).nd rfl (Or.inl rfl) (by first | exact .inl rfl | exact .inr rfl | assumption)) (@pss_cons _ _ _ _ _ (@ps_set _ _ (2) _ _ _ _ (sc_law).nd rfl (Or.inl rfl) (@pe_cal _ _ _ _ _ _ _ _ _ _ _ C__law_well hr (by omega) rfl (@pa_cons _ _ _ _ _ (@pv _ 1 _ _ (by rfl) (by first | exact Or.inl rfl | exact Or.inr ( Or.inl rfl ) | exact Or.inr ( Or.inr rfl )) (by decide) (by decide)) pa_nil (by rfl)) (by decide) (by rfl) (by rfl)) (by rfl) (by first | exact .inl rfl | exact .inr rfl | assumption)) (@pss_cons _ _ _ _ _ (@ps_set _ _ (3) _ _ _ _ (sc_law).nd rfl (Or.inl rfl) (@pe_cal _ _ _ _ _ _ _ _ _ _ _ C__law_signs hr (by omega) rfl (@pa_cons _ _ _ _ _ (@pv _ 2 _ _ (by rfl) (by first | exact Or.inl rfl | exact Or.inr ( Or.inl rfl ) | exact Or.inr ( Or.inr rfl )) (by decide) (by decide)) pa_nil (by rfl)) (by decide) (by rfl) (by rfl)) (by rfl) (by first | exact .inl rfl | exact .inr rfl | assumption)) (@pss_cons _ _ _ _ _ (@ps_set _ _ (4) _ _ _ _ (sc_law).nd rfl (Or.inl rfl) (@pe_cal _ _ _ _ _ _ _ _ _ _ _ C__law_row hr (by omega) rfl (@pa_cons _ _ _ _ _ (@pv _ 2 _ _ (by rfl) (by first | exact Or.inl rfl | exact Or.inr ( Or.inl rfl ) | exact Or.inr ( Or.inr rfl )) (by decide) (by decide)) (@pa_cons _ _ _ _ _ (@pe_op _ _ _ _ _ _ _ _ op_add pe_int (@pe_cal _ _ _ _ _ _ _ _ _ _ _ C__law_draw hr (by omega) rfl (@pa_cons _ _ _ _ _ (@pv _ 2 _ _ (by rfl) (by first | exact Or.inl rfl | exact Or.inr ( Or.inl rfl ) | exact Or.inr ( Or.inr rfl )) (by decide) (by decide)) (@pa_cons _ _ _ _ _ pe_int pa_nil (by rfl)) (by rfl)) (by decide) (by rfl) (by rfl))) pa_nil (by rfl)) (by rfl)) (by decide) (by rfl) (by rfl)) (by rfl) (by first | exact .inl rfl | exact .inr rfl | assumption)) (@pss_cons _ _ _ _ _ (@ps_set _ _ (5) _ _ _ _ (sc_law).nd rfl (Or.inl rfl) (@pe_cal _ _ _ _ _ _ _ _ _ _ _ C__law_way hr (by omega) rfl (@pa_cons _ _ _ _ _ (@pv _ 2 _ _ (by rfl) (by first | exact Or.inl rfl | exact Or.inr ( Or.inl rfl ) | exact Or.inr ( Or.inr rfl )) (by decide) (by decide)) (@pa_cons _ _ _ _ _ (@pv _ 4 _ _ (by rfl) (by first | exact Or.inl rfl | exact Or.inr ( Or.inl rfl ) | exact Or.inr ( Or.inr rfl )) (by decide) (by decide)) (@pa_cons _ _ _ _ _ pe_str pa_nil (by rfl)) (by rfl)) (by rfl)) (by decide) (by rfl) (by rfl)) (by rfl) (by first | exact .inl rfl | exact .inr rfl | assumption)) (@pss_cons _ _ _ _ _ (@ps_set _ _ (6) _ _ _ _ (sc_law).nd rfl (Or.inl rfl) (@pe_cal _ _ _ _ _ _ _ _ _ _ _ C_how_many_ways hr (by omega) rfl (@pa_cons _ _ _ _ _ (@pv _ 3 _ _ (by rfl) (by first | exact Or.inl rfl | exact Or.inr ( Or.inl rfl ) | exact Or.inr ( Or.inr rfl )) (by decide) (by decide)) (@pa_cons _ _ _ _ _ (@pe_callB _ _ _ _ _ _ _ _ _ call_len_seq rfl B.ilen PySem.boot_len (@pa_cons _ _ _ _ _ (@pv _ 4 _ _ (by rfl) (by first | exact Or.inl rfl | exact Or.inr ( Or.inl rfl ) | exact Or.inr ( Or.inr rfl )) (by decide) (by decide)) pa_nil (by rfl)) (by decide) (by decide) (by rfl) (by rfl)) pa_nil (by rfl)) (by rfl)) (by decide) (by rfl) (by rfl)) (by rfl) (by first | exact .inl rfl | exact .inr rfl | assumption)) (@pss_one _ _ _ (@ps_for _ _ _ _ _ _ _ _ PassesOwn.never rfl (@pi_range1 _ _ _ _ _ _ rfl B.irange (@pa_cons _ _ _ _ _ pe_int pa_nil (by rfl)) (by rfl)) (@pg_name _ _ (7) _ (sc_law).nd rfl (Or.inl rfl) (by first | exact .inl rfl | exact .inr rfl | assumption)) (@pss_cons _ _ _ _ _ (@ps_set _ _ (8) _ _ _ _ (sc_law).nd rfl (Or.inl rfl) (@pe_cal _ _ _ _ _ _ _ _ _ _ _ C__law_draw hr (by omega) rfl (@pa_cons _ _ _ _ _ (@pv _ 2 _ _ (by rfl) (by first | exact Or.inl rfl | exact Or.inr ( Or.inl rfl ) | exact Or.inr ( Or.inr rfl )) (by decide) (by decide)) (@pa_cons _ _ _ _ _ (@pe_callB _ _ _ _ _ _ _ _ _ call_len_seq rfl B.ilen PySem.boot_len (@pa_cons _ _ _ _ _ (@pv _ 4 _ _ (by rfl) (by first | exact Or.inl rfl | exact Or.inr ( Or.inl rfl ) | exact Or.inr ( Or.inr rfl )) (by decide) (by decide)) pa_nil (by rfl)) (by decide) (by decide) (by rfl) (by rfl)) pa_nil (by rfl)) (by rfl)) (by decide) (by rfl) (by rfl)) (by rfl) (by first | exact .inl rfl | exact .inr rfl | assumption)) (@pss_cons _ _ _ _ _ (@ps_set _ _ (9) _ _ _ _ (sc_law).nd rfl (Or.inl rfl) (@pe_lst _ _ _ _ (@pa_cons _ _ _ _ _ (@pv _ 4 _ _ (by rfl) (by first | exact Or.inl rfl | exact Or.inr ( Or.inl rfl ) | exact Or.inr ( Or.inr rfl )) (by decide) (by decide)) (@pa_cons _ _ _ _ _ (@pe_op _ _ _ _ _ _ _ _ op_cat (@pe_op _ _ _ _ _ _ _ _ op_cat (@pe_slice _ _ _ _ _ _ _ _ _ _ sl_list (@pv _ 4 _ _ (by rfl) (by first | exact Or.inl rfl | exact Or.inr ( Or.inl rfl ) | exact Or.inr ( Or.inr rfl )) (by decide) (by decide)) po_none (@po_some _ _ _ (@pv _ 8 _ _ (by rfl) (by first | exact Or.inl rfl | exact Or.inr ( Or.inl rfl ) | exact Or.inr ( Or.inr rfl )) (by decide) (by decide)))) (@pe_lst _ _ _ _ (@pa_cons _ _ _ _ _ (@pe_cal _ _ _ _ _ _ _ _ _ _ _ C__law_odd hr (by omega) rfl (@pa_cons _ _ _ _ _ (@pv _ 2 _ _ (by rfl) (by first | exact Or.inl rfl | exact Or.inr ( Or.inl rfl ) | exact Or.inr ( Or.inr rfl )) (by decide) (by decide)) pa_nil (by rfl)) (by decide) (by rfl) (by rfl)) pa_nil (by rfl)))) (@pe_slice _ _ _ _ _ _ _ _ _ _ sl_list (@pv _ 4 _ _ (by rfl) (by first | exact Or.inl rfl | exact Or.inr ( Or.inl rfl ) | exact Or.inr ( Or.inr rfl )) (by decide) (by decide)) (@po_some _ _ _ (@pe_op _ _ _ _ _ _ _ _ op_add (@pv _ 8 _ _ (by rfl) (by first | exact Or.inl rfl | exact Or.inr ( Or.inl rfl ) | exact Or.inr ( Or.inr rfl )) (by decide) (by decide)) pe_int)) po_none)) (@pa_cons _ _ _ _ _ (@pe_callTy _ _ _ _ _ _ _ _ _ call_tuple_of rfl B.ituple PyProof.Rows.boot_tuple (@pa_cons _ _ _ _ _ (@pv _ 4 _ _ (by rfl) (by first | exact Or.inl rfl | exact Or.inr ( Or.inl rfl ) | exact Or.inr ( Or.inr rfl )) (by decide) (by decide)) pa_nil (by rfl)) (by decide) (by decide) (by rfl) (by rfl)) (@pa_cons _ _ _ _ _ (@pe_lst _ _ _ _ pa_nil) (@pa_cons _ _ _ _ _ (@pe_op _ _ _ _ _ _ _ _ op_cat (@pv _ 4 _ _ (by rfl) (by first | exact Or.inl rfl | exact Or.inr ( Or.inl rfl ) | exact Or.inr ( Or.inr rfl )) (by decide) (by decide)) (@pe_op _ _ _ _ _ _ _ _ op_rep (@pe_lst _ _ _ _ (@pa_cons _ _ _ _ _ pe_int pa_nil (by rfl))) pe_int)) (@pa_cons _ _ _ _ _ pe_non (@pa_cons _ _ _ _ _ pe_str pa_nil (by rfl)) (by rfl)) (by rfl)) (by rfl)) (by rfl)) (by rfl)) (by rfl))) (by rfl) (by first | exact .inl rfl | exact .inr rfl | assumption)) (@pss_cons _ _ _ _ _ (@ps_set _ _ (10) _ _ _ _ (sc_law).nd rfl (Or.inl rfl) (@pe_lst _ _ _ _ (@pa_cons _ _ _ _ _ (@pv _ 3 _ _ (by rfl) (by first | exact Or.inl rfl | exact Or.inr ( Or.inl rfl ) | exact Or.inr ( Or.inr rfl )) (by decide) (by decide)) (@pa_cons _ _ _ _ _ (@pe_op _ _ _ _ _ _ _ _ op_add_str (@pv _ 3 _ _ (by rfl) (by first | exact Or.inl rfl | exact Or.inr ( Or.inl rfl ) | exact Or.inr ( Or.inr rfl )) (by decide) (by decide)) pe_str) (@pa_cons _ _ _ _ _ (@pe_op _ _ _ _ _ _ _ _ op_add_str pe_str (@pv _ 3 _ _ (by rfl) (by first | exact Or.inl rfl | exact Or.inr ( Or.inl rfl ) | exact Or.inr ( Or.inr rfl )) (by decide) (by decide))) (@pa_cons _ _ _ _ _ pe_str (@pa_cons _ _ _ _ _ (@pe_op _ _ _ _ _ _ _ _ op_add_str (@pv _ 3 _ _ (by rfl) (by first | exact Or.inl rfl | exact Or.inr ( Or.inl rfl ) | exact Or.inr ( Or.inr rfl )) (by decide) (by decide)) pe_str) (@pa_cons _ _ _ _ _ pe_non (@pa_cons _ _ _ _ _ (@pe_lst _ _ _ _ (@pa_cons _ _ _ _ _ (@pv _ 3 _ _ (by rfl) (by first | exact Or.inl rfl | exact Or.inr ( Or.inl rfl ) | exact Or.inr ( Or.inr rfl )) (by decide) (by decide)) pa_nil (by rfl))) (@pa_cons _ _ _ _ _ pe_str (@pa_cons _ _ _ _ _ (@pe_revS _ _ _ _ _ _ _ (@pv _ 3 _ _ (by rfl) (by first | exact Or.inl rfl | exact Or.inr ( Or.inl rfl ) | exact Or.inr ( Or.inr rfl )) (by decide) (by decide)) (@pe_un _ _ _ _ _ _ un_neg pe_int)) pa_nil (by rfl)) (by rfl)) (by rfl)) (by rfl)) (by rfl)) (by rfl)) (by rfl)) (by rfl)) (by rfl))) (by rfl) (by first | exact .inl rfl | exact .inr rfl | assumption)) (@pss_cons _ _ _ _ _ (@ps_set _ _ (11) _ _ _ _ (sc_law).nd rfl (Or.inl rfl) (@pe_lst _ _ _ _ (@pa_cons _ _ _ _ _ (@pv _ 5 _ _ (by rfl) (by first | exact Or.inl rfl | exact Or.inr ( Or.inl rfl ) | exact Or.inr ( Or.inr rfl )) (by decide) (by decide)) (@pa_cons _ _ _ _ _ (@pe_cal _ _ _ _ _ _ _ _ _ _ _ C__law_bad_way hr (by omega) rfl (@pa_cons _ _ _ _ _ (@pv _ 2 _ _ (by rfl) (by first | exact Or.inl rfl | exact Or.inr ( Or.inl rfl ) | exact Or.inr ( Or.inr rfl )) (by decide) (by decide)) (@pa_cons _ _ _ _ _ (@pv _ 5 _ _ (by rfl) (by first | exact Or.inl rfl | exact Or.inr ( Or.inl rfl ) | exact Or.inr ( Or.inr rfl )) (by decide) (by decide)) pa_nil (by rfl)) (by rfl)) (by decide) (by rfl) (by rfl)) (@pa_cons _ _ _ _ _ (@pe_cal _ _ _ _ _ _ _ _ _ _ _ C__law_way hr (by omega) rfl (@pa_cons _ _ _ _ _ (@pv _ 2 _ _ (by rfl) (by first | exact Or.inl rfl | exact Or.inr ( Or.inl rfl ) | exact Or.inr ( Or.inr rfl )) (by decide) (by decide)) (@pa_cons _ _ _ _ _ (@pe_op _ _ _ _ _ _ _ _ op_cat (@pv _ 4 _ _ (by rfl) (by first | exact Or.inl rfl | exact Or.inr ( Or.inl rfl ) | exact Or.inr ( Or.inr rfl )) (by decide) (by decide)) (@pe_op _ _ _ _ _ _ _ _ op_rep (@pe_lst _ _ _ _ (@pa_cons _ _ _ _ _ pe_int pa_nil (by rfl))) pe_int)) (@pa_cons _ _ _ _ _ (@pv _ 3 _ _ (by rfl) (by first | exact Or.inl rfl | exact Or.inr ( Or.inl rfl ) | exact Or.inr ( Or.inr rfl )) (by decide) (by decide)) pa_nil (by rfl)) (by rfl)) (by rfl)) (by decide) (by rfl) (by rfl)) (@pa_cons _ _ _ _ _ (@pe_cal _ _ _ _ _ _ _ _ _ _ _ C__law_odd hr (by omega) rfl (@pa_cons _ _ _ _ _ (@pv _ 2 _ _ (by rfl) (by first | exact Or.inl rfl | exact Or.inr ( Or.inl rfl ) | exact Or.inr ( Or.inr rfl )) (by decide) (by decide)) pa_nil (by rfl)) (by decide) (by rfl) (by rfl)) pa_nil (by rfl)) (by rfl)) (by rfl)) (by rfl))) (by rfl) (by first | exact .inl rfl | exact .inr rfl | assumption)) (@pss_cons _ _ _ _ _ (@ps_set _ _ (12) _ _ _ _ (sc_law).nd rfl (Or.inl rfl) (@pe_ix _ _ _ _ _ _ _ ix_list (@pe_lst _ _ _ _ (@pa_cons _ _ _ _ _ (@pe_cal _ _ _ _ _ _ _ _ _ _ _ C__law_draw hr (by omega) rfl (@pa_cons _ _ _ _ _ (@pv _ 2 _ _ (by rfl) (by first | exact Or.inl rfl | exact Or.inr ( Or.inl rfl ) | exact Or.inr ( Or.inr rfl )) (by decide) (by decide)) (@pa_cons _ _ _ _ _ pe_int pa_nil (by rfl)) (by rfl)) (by decide) (by rfl) (by rfl)) (@pa_cons _ _ _ _ _ pe_int (@pa_cons _ _ _ _ _ pe_int (@pa_cons _ _ _ _ _ (@pe_un _ _ _ _ _ _ un_neg pe_int) (@pa_cons _ _ _ _ _ pe_bl (@pa_cons _ _ _ _ _ pe_non (@pa_cons _ _ _ _ _ pe_str (@pa_cons _ _ _ _ _ (@pe_lst _ _ _ _ (@pa_cons _ _ _ _ _ pe_int pa_nil (by rfl))) (@pa_cons _ _ _ _ _ (@pe_op _ _ _ _ _ _ _ _ op_pow pe_int pe_int) pa_nil (by rfl)) (by rfl)) (by rfl)) (by rfl)) (by rfl)) (by rfl)) (by rfl)) (by rfl)) (by rfl))) (@pe_cal _ _ _ _ _ _ _ _ _ _ _ C__law_draw hr (by omega) rfl (@pa_cons _ _ _ _ _ (@pv _ 2 _ _ (by rfl) (by first | exact Or.inl rfl | exact Or.inr ( Or.inl rfl ) | exact Or.inr ( Or.inr rfl )) (by decide) (by decide)) (@pa_cons _ _ _ _ _ pe_int pa_nil (by rfl)) (by rfl)) (by decide) (by rfl) (by rfl)) (fun _ _ => rfl)) (by rfl) (by first | exact .inl rfl | exact .inr rfl | assumption)) (@pss_cons _ _ _ _ _ (@ps_set _ _ (13) _ _ _ _ (sc_law).nd rfl (Or.inl rfl) (@pe_lst _ _ _ _ (@pa_cons _ _ _ _ _ pe_int (@pa_cons _ _ _ _ _ (@pe_op _ _ _ _ _ _ _ _ op_sub (@pv _ 6 _ _ (by rfl) (by first | exact Or.inl rfl | exact Or.inr ( Or.inl rfl ) | exact Or.inr ( Or.inr rfl )) (by decide) (by decide)) pe_int) (@pa_cons _ _ _ _ _ (@pv _ 6 _ _ (by rfl) (by first | exact Or.inl rfl | exact Or.inr ( Or.inl rfl ) | exact Or.inr ( Or.inr rfl )) (by decide) (by decide)) (@pa_cons _ _ _ _ _ (@pe_un _ _ _ _ _ _ un_neg pe_int) (@pa_cons _ _ _ _ _ (@pe_op _ _ _ _ _ _ _ _ op_pow pe_int pe_int) (@pa_cons _ _ _ _ _ pe_bl (@pa_cons _ _ _ _ _ pe_non (@pa_cons _ _ _ _ _ pe_str (@pa_cons _ _ _ _ _ (@pe_lst _ _ _ _ (@pa_cons _ _ _ _ _ pe_int pa_nil (by rfl))) pa_nil (by rfl)) (by rfl)) (by rfl)) (by rfl)) (by rfl)) (by rfl)) (by rfl)) (by rfl)) (by rfl))) (by rfl) (by first | exact .inl rfl | exact .inr rfl | assumption)) (@pss_cons _ _ _ _ _ (@ps_set _ _ (13) _ _ _ _ (sc_law).nd rfl (Or.inl rfl) (@pe_op _ _ _ _ _ _ _ _ op_cat (@pv _ 13 _ _ (by rfl) (by first | exact Or.inl rfl | exact Or.inr ( Or.inl rfl ) | exact Or.inr ( Or.inr rfl )) (by decide) (by decide)) (@pe_lst _ _ _ _ (@pa_cons _ _ _ _ _ (@pe_op _ _ _ _ _ _ _ _ op_add (@pv _ 6 _ _ (by rfl) (by first | exact Or.inl rfl | exact Or.inr ( Or.inl rfl ) | exact Or.inr ( Or.inr rfl )) (by decide) (by decide)) (@pe_cal _ _ _ _ _ _ _ _ _ _ _ C__law_draw hr (by omega) rfl (@pa_cons _ _ _ _ _ (@pv _ 2 _ _ (by rfl) (by first | exact Or.inl rfl | exact Or.inr ( Or.inl rfl ) | exact Or.inr ( Or.inr rfl )) (by decide) (by decide)) (@pa_cons _ _ _ _ _ (@pe_op _ _ _ _ _ _ _ _ op_pow pe_int pe_int) pa_nil (by rfl)) (by rfl)) (by decide) (by rfl) (by rfl))) (@pa_cons _ _ _ _ _ (@pe_op _ _ _ _ _ _ _ _ op_sub (@pe_un _ _ _ _ _ _ un_neg pe_int) (@pe_cal _ _ _ _ _ _ _ _ _ _ _ C__law_draw hr (by omega) rfl (@pa_cons _ _ _ _ _ (@pv _ 2 _ _ (by rfl) (by first | exact Or.inl rfl | exact Or.inr ( Or.inl rfl ) | exact Or.inr ( Or.inr rfl )) (by decide) (by decide)) (@pa_cons _ _ _ _ _ (@pe_op _ _ _ _ _ _ _ _ op_pow pe_int pe_int) pa_nil (by rfl)) (by rfl)) (by decide) (by rfl) (by rfl))) (@pa_cons _ _ _ _ _ pe_bl pa_nil (by rfl)) (by rfl)) (by rfl)))) (by rfl) (by first | exact .inl rfl | exact .inr rfl | assumption)) (@pss_cons _ _ _ _ _ (@ps_set _ _ (13) _ _ _ _ (sc_law).nd rfl (Or.inl rfl) (@pe_ix _ _ _ _ _ _ _ ix_list (@pv _ 13 _ _ (by rfl) (by first | exact Or.inl rfl | exact Or.inr ( Or.inl rfl ) | exact Or.inr ( Or.inr rfl )) (by decide) (by decide)) (@pe_cal _ _ _ _ _ _ _ _ _ _ _ C__law_draw hr (by omega) rfl (@pa_cons _ _ _ _ _ (@pv _ 2 _ _ (by rfl) (by first | exact Or.inl rfl | exact Or.inr ( Or.inl rfl ) | exact Or.inr ( Or.inr rfl )) (by decide) (by decide)) (@pa_cons _ _ _ _ _ pe_int pa_nil (by rfl)) (by rfl)) (by decide) (by rfl) (by rfl)) (fun _ _ => rfl)) (by rfl) (by first | exact .inl rfl | exact .inr rfl | assumption)) (@pss_cons _ _ _ _ _ (@ps_set _ _ (14) _ _ _ _ (sc_law).nd rfl (Or.inl rfl) (@pe_ix _ _ _ _ _ _ _ ix_list (@pv _ 9 _ _ (by rfl) (by first | exact Or.inl rfl | exact Or.inr ( Or.inl rfl ) | exact Or.inr ( Or.inr rfl )) (by decide) (by decide)) (@pe_cal _ _ _ _ _ _ _ _ _ _ _ C__law_draw hr (by omega) rfl (@pa_cons _ _ _ _ _ (@pv _ 2 _ _ (by rfl) (by first | exact Or.inl rfl | exact Or.inr ( Or.inl rfl ) | exact Or.inr ( Or.inr rfl )) (by decide) (by decide)) (@pa_cons _ _ _ _ _ pe_int pa_nil (by rfl)) (by rfl)) (by decide) (by rfl) (by rfl)) (fun _ _ => rfl)) (by rfl) (by first | exact .inl rfl | exact .inr rfl | assumption)) (@pss_cons _ _ _ _ _ (@ps_set _ _ (15) _ _ _ _ (sc_law).nd rfl (Or.inl rfl) (@pe_ix _ _ _ _ _ _ _ ix_list (@pv _ 10 _ _ (by rfl) (by first | exact Or.inl rfl | exact Or.inr ( Or.inl rfl ) | exact Or.inr ( Or.inr rfl )) (by decide) (by decide)) (@pe_cal _ _ _ _ _ _ _ _ _ _ _ C__law_draw hr (by omega) rfl (@pa_cons _ _ _ _ _ (@pv _ 2 _ _ (by rfl) (by first | exact Or.inl rfl | exact Or.inr ( Or.inl rfl ) | exact Or.inr ( Or.inr rfl )) (by decide) (by decide)) (@pa_cons _ _ _ _ _ pe_int pa_nil (by rfl)) (by rfl)) (by decide) (by rfl) (by rfl)) (fun _ _ => rfl)) (by rfl) (by first | exact .inl rfl | exact .inr rfl | assumption)) (@pss_cons _ _ _ _ _ (@ps_set _ _ (16) _ _ _ _ (sc_law).nd rfl (Or.inl rfl) (@pe_ix _ _ _ _ _ _ _ ix_list (@pv _ 11 _ _ (by rfl) (by first | exact Or.inl rfl | exact Or.inr ( Or.inl rfl ) | exact Or.inr ( Or.inr rfl )) (by decide) (by decide)) (@pe_cal _ _ _ _ _ _ _ _ _ _ _ C__law_draw hr (by omega) rfl (@pa_cons _ _ _ _ _ (@pv _ 2 _ _ (by rfl) (by first | exact Or.inl rfl | exact Or.inr ( Or.inl rfl ) | exact Or.inr ( Or.inr rfl )) (by decide) (by decide)) (@pa_cons _ _ _ _ _ pe_int pa_nil (by rfl)) (by rfl)) (by decide) (by rfl) (by rfl)) (fun _ _ => rfl)) (by rfl) (by first | exact .inl rfl | exact .inr rfl | assumption)) (@pss_cons _ _ _ _ _ (@ps_if _ _ _ _ _ _ _ _ (@PW.pt _ _ _ (@pw_or _ _ _ _ _ _ _ (@pt_not _ _ _ _ (@pt_val _ _ _ (@pe_cal _ _ _ _ _ _ _ _ _ _ _ C__law_right hr (by omega) rfl (@pa_cons _ _ _ _ _ (@pv _ 14 _ _ (by rfl) (by first | exact Or.inl rfl | exact Or.inr ( Or.inl rfl ) | exact Or.inr ( Or.inr rfl )) (by decide) (by decide)) (@pa_cons _ _ _ _ _ (@pv _ 15 _ _ (by rfl) (by first | exact Or.inl rfl | exact Or.inr ( Or.inl rfl ) | exact Or.inr ( Or.inr rfl )) (by decide) (by decide)) (@pa_cons _ _ _ _ _ (@pv _ 16 _ _ (by rfl) (by first | exact Or.inl rfl | exact Or.inr ( Or.inl rfl ) | exact Or.inr ( Or.inr rfl )) (by decide) (by decide)) (@pa_cons _ _ _ _ _ (@pv _ 12 _ _ (by rfl) (by first | exact Or.inl rfl | exact Or.inr ( Or.inl rfl ) | exact Or.inr ( Or.inr rfl )) (by decide) (by decide)) (@pa_cons _ _ _ _ _ (@pv _ 13 _ _ (by rfl) (by first | exact Or.inl rfl | exact Or.inr ( Or.inl rfl ) | exact Or.inr ( Or.inr rfl )) (by decide) (by decide)) pa_nil (by rfl)) (by rfl)) (by rfl)) (by rfl)) (by rfl)) (by decide) (by rfl) (by rfl)) (by intro _; rfl))) (@pw_or1 _ _ _ _ (@pt_not _ _ _ _ (@pt_val _ _ _ (@pe_cal _ _ _ _ _ _ _ _ _ _ _ C__law_right hr (by omega) rfl (@pa_cons _ _ _ _ _ (@pv _ 4 _ _ (by rfl) (by first | exact Or.inl rfl | exact Or.inr ( Or.inl rfl ) | exact Or.inr ( Or.inr rfl )) (by decide) (by decide)) (@pa_cons _ _ _ _ _ (@pv _ 3 _ _ (by rfl) (by first | exact Or.inl rfl | exact Or.inr ( Or.inl rfl ) | exact Or.inr ( Or.inr rfl )) (by decide) (by decide)) (@pa_cons _ _ _ _ _ (@pv _ 5 _ _ (by rfl) (by first | exact Or.inl rfl | exact Or.inr ( Or.inl rfl ) | exact Or.inr ( Or.inr rfl )) (by decide) (by decide)) (@pa_cons _ _ _ _ _ (@pv _ 12 _ _ (by rfl) (by first | exact Or.inl rfl | exact Or.inr ( Or.inl rfl ) | exact Or.inr ( Or.inr rfl )) (by decide) (by decide)) (@pa_cons _ _ _ _ _ (@pv _ 13 _ _ (by rfl) (by first | exact Or.inl rfl | exact Or.inr ( Or.inl rfl ) | exact Or.inr ( Or.inr rfl )) (by decide) (by decide)) pa_nil (by rfl)) (by rfl)) (by rfl)) (by rfl)) (by rfl)) (by decide) (by rfl) (by rfl)) (by intro _; rfl)))))) (@pss_one _ _ _ (@ps_ret _ _ _ _ pe_bl)) pss_nil) (@pss_one _ _ _ (@ps_if _ _ _ _ _ _ _ _ (@PW.pt _ _ _ (@pw_or _ _ _ _ _ _ _ (@pt_not _ _ _ _ (@pt_val _ _ _ (@pe_cal _ _ _ _ _ _ _ _ _ _ _ C__law_right hr (by omega) rfl (@pa_cons _ _ _ _ _ (@pv _ 4 _ _ (by rfl) (by first | exact Or.inl rfl | exact Or.inr ( Or.inl rfl ) | exact Or.inr ( Or.inr rfl )) (by decide) (by decide)) (@pa_cons _ _ _ _ _ (@pv _ 15 _ _ (by rfl) (by first | exact Or.inl rfl | exact Or.inr ( Or.inl rfl ) | exact Or.inr ( Or.inr rfl )) (by decide) (by decide)) (@pa_cons _ _ _ _ _ (@pv _ 5 _ _ (by rfl) (by first | exact Or.inl rfl | exact Or.inr ( Or.inl rfl ) | exact Or.inr ( Or.inr rfl )) (by decide) (by decide)) (@pa_cons _ _ _ _ _ (@pv _ 12 _ _ (by rfl) (by first | exact Or.inl rfl | exact Or.inr ( Or.inl rfl ) | exact Or.inr ( Or.inr rfl )) (by decide) (by decide)) (@pa_cons _ _ _ _ _ pe_int pa_nil (by rfl)) (by rfl)) (by rfl)) (by rfl)) (by rfl)) (by decide) (by rfl) (by rfl)) (by intro _; rfl))) (@pw_or1 _ _ _ _ (@pt_not _ _ _ _ (@pt_val _ _ _ (@pe_cal _ _ _ _ _ _ _ _ _ _ _ C__law_right hr (by omega) rfl (@pa_cons _ _ _ _ _ (@pv _ 14 _ _ (by rfl) (by first | exact Or.inl rfl | exact Or.inr ( Or.inl rfl ) | exact Or.inr ( Or.inr rfl )) (by decide) (by decide)) (@pa_cons _ _ _ _ _ (@pv _ 3 _ _ (by rfl) (by first | exact Or.inl rfl | exact Or.inr ( Or.inl rfl ) | exact Or.inr ( Or.inr rfl )) (by decide) (by decide)) (@pa_cons _ _ _ _ _ (@pv _ 16 _ _ (by rfl) (by first | exact Or.inl rfl | exact Or.inr ( Or.inl rfl ) | exact Or.inr ( Or.inr rfl )) (by decide) (by decide)) (@pa_cons _ _ _ _ _ pe_int (@pa_cons _ _ _ _ _ (@pv _ 13 _ _ (by rfl) (by first | exact Or.inl rfl | exact Or.inr ( Or.inl rfl ) | exact Or.inr ( Or.inr rfl )) (by decide) (by decide)) pa_nil (by rfl)) (by rfl)) (by rfl)) (by rfl)) (by rfl)) (by decide) (by rfl) (by rfl)) (by intro _; rfl)))))) (@pss_one _ _ _ (@ps_ret _ _ _ _ pe_bl)) pss_nil)))))))))))))) (by intro _; rfl)))))))) (by intro _; rfl)) (@pss_one _ _ _ (@ps_ret _ _ _ _ (@pe_and _ _ _ _ _ _ _ (@pe_cal _ _ _ _ _ _ _ _ _ _ _ C__law_right hr (by omega) rfl (@pa_cons _ _ _ _ _ (@pe_lst _ _ _ _ pa_nil) (@pa_cons _ _ _ _ _ pe_str (@pa_cons _ _ _ _ _ pe_non (@pa_cons _ _ _ _ _ pe_int (@pa_cons _ _ _ _ _ pe_int pa_nil (by rfl)) (by rfl)) (by rfl)) (by rfl)) (by rfl)) (by decide) (by rfl) (by rfl)) (@pe_one _ _ _ _ _ (@pe_cal _ _ _ _ _ _ _ _ _ _ _ C__law_right hr (by omega) rfl (@pa_cons _ _ _ _ _ (@pe_op _ _ _ _ _ _ _ _ op_rep (@pe_lst _ _ _ _ (@pa_cons _ _ _ _ _ pe_int pa_nil (by rfl))) pe_int) (@pa_cons _ _ _ _ _ pe_str (@pa_cons _ _ _ _ _ (@pe_tup _ _ _ _ _ (@pa_cons _ _ _ _ _ pe_str (@pa_cons _ _ _ _ _ pe_int (@pa_cons _ _ _ _ _ pe_bl pa_nil (by rfl)) (by rfl)) (by rfl))) (@pa_cons _ _ _ _ _ pe_int (@pa_cons _ _ _ _ _ pe_int pa_nil (by rfl)) (by rfl)) (by rfl)) (by rfl)) (by rfl)) (by decide) (by rfl) (by rfl))))))), ?_⟩
  refine ⟨(by show 1 ≤ sizeLine; decide), fun p1 n1 => ?_⟩
  have g1 := Same.new n1 (.lst [.int 0])
  refine ⟨_, rfl, 15, rfl, a, _, rfl, g1.seq hS, fun p2 n2 => ?_⟩
  obtain ⟨ms, em, hm⟩ := cut_some ns none (some 15)
  rw [em]
  have g2 := Same.new n2 (.lst (ms.map V.int))
  refine ⟨p1, p2, _, _, rfl, rfl, g2 _ _ upd_same, upd_same, le_line (by rw [List.length_map]; show 1 + ms.length ≤ 1000; omega), fun p3 n3 => ?_⟩
  have e3 : upd (upd (upd H p1 (.lst [.int 0])) p2 (.lst (ms.map V.int))) p3 (.lst ([.int 0] ++ ms.map V.int)) p3 = _ := upd_same
  have el : [V.int 0] ++ ms.map V.int = (0 :: ms).map V.int := rfl
  rw [el] at e3 ⊢
  revert e3
  generalize upd (upd (upd H p1 (.lst [.int 0])) p2 (.lst (ms.map V.int))) p3 (.lst ((0 :: ms).map V.int)) = H3
  intro e3
  have t1 : (1 : Nat) ≤ sizeLine := by decide
  refine ⟨p3, rfl, ⟨_, SqL.of e3⟩, for_list (xs := (0 :: ms).map V.int) (fun i σ H' => ∃ c1 c2 c3 c4 c5 c6 c7 c8 c9 d1 d2 d3 d4 d5 d6 d7, σ = [some (.ref a), c1, c2, c3, c4, c5, c6, c7, c8, c9, d1, d2, d3, d4, d5, d6, d7] ∧ Same H3 H') ⟨_, _, _, _, _, _, _, _, _, _, _, _, _, _, _, _, rfl, Same.refl _⟩ ?_ ?_ ?_⟩
  · rintro i σ H' _ ⟨_, _, _, _, _, _, _, _, _, _, _, _, _, _, _, _, rfl, S⟩
    exact SqL.of (S _ _ e3)
  · rintro i x σ H' hx ⟨c1, c2, c3, c4, c5, c6, c7, c8, c9, d1, d2, d3, d4, d5, d6, d7, rfl, S⟩
    rw [List.getElem?_map] at hx
    obtain ⟨c, _, rfl⟩ := Option.map_eq_some_iff.mp hx
    refine ⟨_, rfl, c, rfl, fun wl ca cb H4 g4 nw ew => ?_⟩
    have nwl : H3 wl = none := S.free nw
    have w4 : Wel H4 wl 0 := ⟨ca, cb, 0, ew, by omega, by omega⟩
    refine ⟨_, rfl, wl, _, rfl, w4, by omega, fun gs H5 hsev k5 w5 => ?_⟩
    obtain ⟨z0, z1, z2, z3, z4, z5, z6, z7, z8⟩ := sev_all hsev
    refine ⟨_, rfl, _, rfl, wl, 9, _, rfl, by decide, by decide, w5, by omega, fun r1 H6 a1 b1 k6 w6 => ⟨_, _, rfl, rfl, ?_⟩⟩
    refine ⟨wl, 1 + r1, _, rfl, by omega, by omega, w6, by omega, fun pr rs H7 k7 w7 nr er hlen hsm => ?_⟩
    have nrw : pr ≠ wl := w6.ne nr
    have es3 : ("+-*" : Str) = sgText [.plus, .minus, .times] := by decide +kernel
    refine ⟨_, rfl, _, rfl, wl, pr, [.plus, .minus, .times], rs, _, (by rw [← es3]; rfl), er, nrw, by omega, by omega, by omega, by decide, by decide, w7, by omega, fun v wy H8 iw en wi k8 w8 => ?_⟩
    have sz : wy.size ≤ 9 := by rw [← wy.nums_len, en]; omega
    have sm := small_sm hsm en
    have er8 := k8 _ _ nrw er
    have B8 : But wl H4 H8 := ((k5.trans k6).trans k7).trans k8
    refine ⟨_, rfl, _, rfl, pr, _, rfl, .inl (SqL.of er8), ?_⟩
    rw [List.length_map]
    refine ⟨.str (sgText gs), _, .int (rs.length : Nat), _, rfl, (by simp only [Dat]), (by simp only [Dat]), fun c => absurd c (neF z0), fun _ => ⟨fun c => absurd c (neF (by show (decide (1 ≤ ((rs.length : Nat) : Int)) && decide (((rs.length : Nat) : Int) ≤ 9)) = true; rw [decide_eq_true (by omega), decide_eq_true (by omega)]; rfl)), fun _ m em H9 g9 => ?_⟩⟩
    have hmo : 0 ≤ cn (sgl (.str (sgText gs))) m.toNat ∧ cn (sgl (.str (sgText gs))) m.toNat < 1000000000 := by
      have e1 : ((rs.length : Nat) : Int) = m := by injection em
      exact cn_bd _ (by show (sgText gs).length ≤ 3; rw [sgText_len]; exact z2) _ (by omega)
    revert hmo
    generalize cn (sgl (.str (sgText gs))) m.toNat = mo
    intro hmo
    have w9 := w8.keep g9 (Int.le_refl _)
    have er9 := g9 _ _ er8
    have iw9 := iw.mono (Tups.of g9)
    refine ⟨4, rfl, by decide, by decide, for_range (n := 4) (fun j σ H' => ∃ c7 c8 c9 d1 d2 d3 d4 d5 d6 d7, σ = [some (.ref a), some (.int c), some (.ref wl), some (.str (sgText gs)), some (.ref pr), some v, some (.int mo), c7, c8, c9, d1, d2, d3, d4, d5, d6, d7] ∧ But wl H9 H' ∧ Wel H' wl (2000 + 300 * j)) ⟨_, _, _, _, _, _, _, _, _, _, rfl, But.refl, w9.more (by omega)⟩ ?_ ?_⟩
    · rintro j σ K0 hj ⟨c7, c8, c9, d1, d2, d3, d4, d5, d6, d7, rfl, bb0, u0⟩
      have er0 := bb0 _ _ nrw er9
      have iw0 := iw9.mono (w9.tups bb0)
      have dl := wy.deep_le
      have lr : rs.length ≤ 9 := by omega
      refine ⟨_, rfl, _, rfl, pr, _, rfl, .inl (SqL.of er0), ?_⟩
      rw [List.length_map]
      refine ⟨wl, (rs.length : Nat), _, rfl, by omega, by omega, u0, by omega, fun at0 K1 at1 at2 b0 u1 => ?_⟩
      obtain ⟨ai, rfl⟩ : ∃ ai : Nat, at0 = (ai : Int) := ⟨at0.toNat, by omega⟩
      have al : ai < rs.length := by omega
      refine ⟨_, rfl, _, rfl, _, rfl, _, rfl, pr, _, rfl, SqL.of (b0 _ _ nrw er0), fun q1 m1 => ?_⟩
      rw [cut_take rs ai (by omega)]
      have y1 := Same.new m1 (.lst ((rs.take ai).map V.int))
      have nq_q1 := u1.ne m1
      have u2 := u1.keep y1 (Int.le_refl _)
      have e_q1 := upd_same (H := K1) (a := q1) (o := .lst ((rs.take ai).map V.int))
      revert y1 u2 e_q1
      generalize upd K1 q1 (.lst ((rs.take ai).map V.int)) = K2
      intro y1 u2 e_q1
      have b1 : But wl K1 K2 := But.of y1
      refine ⟨_, rfl, wl, _, rfl, u2, by omega, fun dd1 uu1 K3 b2 u3 hd1 ok1 sz1 dp1 => ?_⟩
      refine ⟨t1, fun q2 m2 => ?_⟩
      have y3 := Same.new m2 (.lst [uu1])
      have nq_q2 := u3.ne m2
      have u4 := u3.keep y3 (Int.le_refl _)
      have e_q2 := upd_same (H := K3) (a := q2) (o := .lst [uu1])
      revert y3 u4 e_q2
      generalize upd K3 q2 (.lst [uu1]) = K4
      intro y3 u4 e_q2
      have b3 : But wl K3 K4 := But.of y3
      refine ⟨q1, q2, _, _, rfl, rfl, ((b2.trans b3) _ _ nq_q1 e_q1), e_q2, le_line (by rw [List.length_map, List.length_take]; show _ + 1 ≤ 1000; omega), fun q3 m3 => ?_⟩
      have y4 := Same.new m3 (.lst ((rs.take ai).map V.int ++ [uu1]))
      have nq_q3 := u4.ne m3
      have u5 := u4.keep y4 (Int.le_refl _)
      have e_q3 := upd_same (H := K4) (a := q3) (o := .lst ((rs.take ai).map V.int ++ [uu1]))
      revert y4 u5 e_q3
      generalize upd K4 q3 (.lst ((rs.take ai).map V.int ++ [uu1])) = K5
      intro y4 u5 e_q3
      have b4 : But wl K4 K5 := But.of y4
      refine ⟨_, rfl, _, rfl, _, _, rfl, rfl, _, rfl, pr, _, rfl, SqL.of ((b0.trans (b1.trans (b2.trans (b3.trans b4)))) _ _ nrw er0), fun q4 m4 => ?_⟩
      have ai1 : (ai : Int) + 1 = ((ai + 1 : Nat) : Int) := by omega
      rw [ai1, cut_drop rs (ai + 1) (by omega)]
      have y5 := Same.new m4 (.lst ((rs.drop (ai + 1)).map V.int))
      have nq_q4 := u5.ne m4
      have u6 := u5.keep y5 (Int.le_refl _)
      have e_q4 := upd_same (H := K5) (a := q4) (o := .lst ((rs.drop (ai + 1)).map V.int))
      revert y5 u6 e_q4
      generalize upd K5 q4 (.lst ((rs.drop (ai + 1)).map V.int)) = K6
      intro y5 u6 e_q4
      have b5 : But wl K5 K6 := But.of y5
      refine ⟨q3, q4, _, _, rfl, rfl, (b5 _ _ nq_q3 e_q3), e_q4, le_line (by rw [List.length_append, List.length_map, List.length_map, List.length_take, List.length_drop]; show _ + 1 + _ ≤ 1000; omega), fun q5 m5 => ?_⟩
      have y6 := Same.new m5 (.lst ((rs.take ai).map V.int ++ [uu1] ++ (rs.drop (ai + 1)).map V.int))
      have nq_q5 := u6.ne m5
      have u7 := u6.keep y6 (Int.le_refl _)
      have e_q5 := upd_same (H := K6) (a := q5) (o := .lst ((rs.take ai).map V.int ++ [uu1] ++ (rs.drop (ai + 1)).map V.int))
      revert y6 u7 e_q5
      generalize upd K6 q5 (.lst ((rs.take ai).map V.int ++ [uu1] ++ (rs.drop (ai + 1)).map V.int)) = K7
      intro y6 u7 e_q5
      have b6 : But wl K6 K7 := But.of y6
      have F5 : Gw (off wl K7) (.ref q5) := by
        refine gw_list (ds := (rs.take ai).map PyData.int ++ [dd1] ++ (rs.drop (ai + 1)).map PyData.int) ((off_ne nq_q5).trans e_q5) (((dat_int_list _).app (DatAll.one (Dat.mono (off_but (b3.trans (b4.trans (b5.trans b6)))) dd1 uu1 hd1))).app (dat_int_list _)) (ok_app (ok_app (ok_int_list (hsm.take _)) ⟨ok1, trivial⟩) (ok_int_list (hsm.drop _))) ?_ ?_
        · rw [sz_app, sz_app, sz_int_list, sz_int_list, List.length_take, List.length_drop]; simp only [szAll]; omega
        · rw [dp_app, dp_app, dp_int_list, dp_int_list]; simp only [PyData.depthAll]; omega
      refine ⟨_, rfl, pr, _, rfl, .inl ⟨SqL.of ((b0.trans (b1.trans (b2.trans (b3.trans (b4.trans (b5.trans b6)))))) _ _ nrw er0), fun q6 m6 => ?_⟩⟩
      have y7 := Same.new m6 (.tup (rs.map V.int))
      have nq_q6 := u7.ne m6
      have u8 := u7.keep y7 (Int.le_refl _)
      have e_q6 := upd_same (H := K7) (a := q6) (o := .tup (rs.map V.int))
      revert y7 u8 e_q6
      generalize upd K7 q6 (.tup (rs.map V.int)) = K8
      intro y7 u8 e_q6
      have b7 : But wl K7 K8 := But.of y7
      have F6 : Gw (off wl K8) (.ref q6) := gw_tup ((off_ne nq_q6).trans e_q6) (dat_int_list rs) (ok_int_list hsm) (by rw [sz_int_list]; omega) (by rw [dp_int_list]; omega)
      refine ⟨(by show 0 ≤ sizeLine; decide), fun q7 m7 => ?_⟩
      have y8 := Same.new m7 (.lst [])
      have nq_q7 := u8.ne m7
      have u9 := u8.keep y8 (Int.le_refl _)
      have e_q7 := upd_same (H := K8) (a := q7) (o := .lst [])
      revert y8 u9 e_q7
      generalize upd K8 q7 (.lst []) = K9
      intro y8 u9 e_q7
      have b8 : But wl K8 K9 := But.of y8
      have F7 : Gw (off wl K9) (.ref q7) := gw_ints (ns := []) ((off_ne nq_q7).trans e_q7) (fun i hi => nomatch hi) (by simp)
      refine ⟨_, rfl, t1, fun q8 m8 => ?_⟩
      have y9 := Same.new m8 (.lst [.int 1])
      have nq_q8 := u9.ne m8
      have u10 := u9.keep y9 (Int.le_refl _)
      have e_q8 := upd_same (H := K9) (a := q8) (o := .lst [.int 1])
      revert y9 u10 e_q8
      generalize upd K9 q8 (.lst [.int 1]) = K10
      intro y9 u10 e_q8
      have b9 : But wl K9 K10 := But.of y9
      have e9 : (List.replicate (9 : Int).toNat [V.int 1]).flatten = (List.replicate 9 (1 : Int)).map V.int := rfl
      have sm1 : Small (rs ++ List.replicate 9 (1 : Int)) := fun i hi => by
        rcases List.mem_append.mp hi with hi | hi
        · exact hsm i hi
        · rw [List.eq_of_mem_replicate hi]; decide
      have l18 : (rs ++ List.replicate 9 (1 : Int)).length = rs.length + 9 := by rw [List.length_append, List.length_replicate]
      refine ⟨q8, 9, [.int 1], rfl, rfl, e_q8, by decide, by decide, (by show 1 * 9 ≤ sizeLine; decide), fun q9 m9 => ?_⟩
      rw [e9]
      have y10 := Same.new m9 (.lst ((List.replicate 9 (1 : Int)).map V.int))
      have nq_q9 := u10.ne m9
      have u11 := u10.keep y10 (Int.le_refl _)
      have e_q9 := upd_same (H := K10) (a := q9) (o := .lst ((List.replicate 9 (1 : Int)).map V.int))
      revert y10 u11 e_q9
      generalize upd K10 q9 (.lst ((List.replicate 9 (1 : Int)).map V.int)) = K11
      intro y10 u11 e_q9
      have b10 : But wl K10 K11 := But.of y10
      refine ⟨pr, q9, _, _, rfl, rfl, ((b0.trans (b1.trans (b2.trans (b3.trans (b4.trans (b5.trans (b6.trans (b7.trans (b8.trans (b9.trans b10)))))))))) _ _ nrw er0), e_q9, le_line (by rw [List.length_map, List.length_map, List.length_replicate]; omega), fun qa ma => ?_⟩
      rw [← List.map_append]
      have y11 := Same.new ma (.lst ((rs ++ List.replicate 9 (1 : Int)).map V.int))
      have nq_qa := u11.ne ma
      have u12 := u11.keep y11 (Int.le_refl _)
      have e_qa := upd_same (H := K11) (a := qa) (o := .lst ((rs ++ List.replicate 9 (1 : Int)).map V.int))
      revert y11 u12 e_qa
      generalize upd K11 qa (.lst ((rs ++ List.replicate 9 (1 : Int)).map V.int)) = K12
      intro y11 u12 e_qa
      have b11 : But wl K11 K12 := But.of y11
      have Fa : Gw (off wl K12) (.ref qa) := gw_ints ((off_ne nq_qa).trans e_qa) sm1 (by omega)
      refine ⟨(by show 7 ≤ sizeLine; decide), fun qr mr => ?_⟩
      have y12 := Same.new mr (.lst [.ref pr, .ref q5, .ref q6, .ref q7, .ref qa, .non, .str "12"])
      have nq_qr := u12.ne mr
      have u13 := u12.keep y12 (Int.le_refl _)
      have e_qr := upd_same (H := K12) (a := qr) (o := .lst [.ref pr, .ref q5, .ref q6, .ref q7, .ref qa, .non, .str "12"])
      revert y12 u13 e_qr
      generalize upd K12 qr (.lst [.ref pr, .ref q5, .ref q6, .ref q7, .ref qa, .non, .str "12"]) = K13
      intro y12 u13 e_qr
      have b12 : But wl K12 K13 := But.of y12
      have Ar : GwA (off wl K13) [.ref pr, .ref q5, .ref q6, .ref q7, .ref qa, .non, .str "12"] := GwA.cons (gw_ints ((off_ne nrw).trans ((b0.trans (b1.trans (b2.trans (b3.trans (b4.trans (b5.trans (b6.trans (b7.trans (b8.trans (b9.trans (b10.trans (b11.trans b12)))))))))))) _ _ nrw er0)) hsm (by omega)) (GwA.cons (F5.mono (off_but (b7.trans (b8.trans (b9.trans (b10.trans (b11.trans b12))))))) (GwA.cons (F6.mono (off_but (b8.trans (b9.trans (b10.trans (b11.trans b12)))))) (GwA.cons (F7.mono (off_but (b9.trans (b10.trans (b11.trans b12))))) (GwA.cons (Fa.mono (off_but b12)) (GwA.cons gw_non (GwA.cons (gw_str _ (by decide +kernel)) GwA.nil))))))
      have ls : (sgText gs).length ≤ 3 := by rw [sgText_len]; exact z2
      have l1 : ("+" : Str).length = 1 ∧ ("*" : Str).length = 1 ∧ (" " : Str).length = 1 := by decide +kernel
      refine ⟨_, rfl, _, rfl, _, _, rfl, rfl, le_line (by omega), _, rfl, _, _, rfl, rfl, le_line (by omega), _, rfl, _, _, rfl, rfl, le_line (by omega), _, rfl, t1, fun qb mb => ?_⟩
      have y13 := Same.new mb (.lst [.str (sgText gs)])
      have nq_qb := u13.ne mb
      have u14 := u13.keep y13 (Int.le_refl _)
      have e_qb := upd_same (H := K13) (a := qb) (o := .lst [.str (sgText gs)])
      revert y13 u14 e_qb
      generalize upd K13 qb (.lst [.str (sgText gs)]) = K14
      intro y13 u14 e_qb
      have b13 : But wl K13 K14 := But.of y13
      have Fb : Gw (off wl K14) (.ref qb) := gw_list (ds := [.str (sgText gs)]) ((off_ne nq_qb).trans e_qb) (by simp only [DatAll]; exact ⟨_, _, rfl, by simp only [Dat], rfl⟩) (by simp only [OkAll, OkD]; exact ⟨z3, trivial⟩) (by simp [szAll, szD]) (by simp [PyData.depthAll, PyData.depth])
      refine ⟨_, rfl, _, rfl, rfl, _, rfl, le_line z8, (by show 9 ≤ sizeLine; decide), fun qt mt => ?_⟩
      have y14 := Same.new mt (.lst [.str (sgText gs), .str (sgText gs ++ "+"), .str ("*" ++ sgText gs), .str "", .str (sgText gs ++ " "), .non, .ref qb, .str "/", .str (revS (sgText gs))])
      have nq_qt := u14.ne mt
      have u15 := u14.keep y14 (Int.le_refl _)
      have e_qt := upd_same (H := K14) (a := qt) (o := .lst [.str (sgText gs), .str (sgText gs ++ "+"), .str ("*" ++ sgText gs), .str "", .str (sgText gs ++ " "), .non, .ref qb, .str "/", .str (revS (sgText gs))])
      revert y14 u15 e_qt
      generalize upd K14 qt (.lst [.str (sgText gs), .str (sgText gs ++ "+"), .str ("*" ++ sgText gs), .str "", .str (sgText gs ++ " "), .non, .ref qb, .str "/", .str (revS (sgText gs))]) = K15
      intro y14 u15 e_qt
      have b14 : But wl K14 K15 := But.of y14
      have At : GwA (off wl K15) [.str (sgText gs), .str (sgText gs ++ "+"), .str ("*" ++ sgText gs), .str "", .str (sgText gs ++ " "), .non, .ref qb, .str "/", .str (revS (sgText gs))] := GwA.cons (gw_str _ z3) (GwA.cons (gw_str _ z4) (GwA.cons (gw_str _ z5) (GwA.cons (gw_str _ (by decide +kernel)) (GwA.cons (gw_str _ z6) (GwA.cons gw_non (GwA.cons (Fb.mono (off_but b14)) (GwA.cons (gw_str _ (by decide +kernel)) (GwA.cons (gw_str _ z7) GwA.nil))))))))
      refine ⟨_, rfl, _, rfl, _, rfl, wl, wy, v, _, rfl, iw0.mono (u0.tups (b0.trans (b1.trans (b2.trans (b3.trans (b4.trans (b5.trans (b6.trans (b7.trans (b8.trans (b9.trans (b10.trans (b11.trans (b12.trans (b13.trans b14))))))))))))))), by omega, by decide, sm, u15, by omega, fun dd2 uu2 K16 b15 u16 hd2 ok2 sz2 dp2 => ?_⟩
      refine ⟨_, rfl, _, rfl, t1, fun qc mc => ?_⟩
      have y16 := Same.new mc (.lst [.int 1])
      have nq_qc := u16.ne mc
      have u17 := u16.keep y16 (Int.le_refl _)
      have e_qc := upd_same (H := K16) (a := qc) (o := .lst [.int 1])
      revert y16 u17 e_qc
      generalize upd K16 qc (.lst [.int 1]) = K17
      intro y16 u17 e_qc
      have b16 : But wl K16 K17 := But.of y16
      refine ⟨qc, 9, [.int 1], rfl, rfl, e_qc, by decide, by decide, (by show 1 * 9 ≤ sizeLine; decide), fun qd md => ?_⟩
      rw [e9]
      have y17 := Same.new md (.lst ((List.replicate 9 (1 : Int)).map V.int))
      have nq_qd := u17.ne md
      have u18 := u17.keep y17 (Int.le_refl _)
      have e_qd := upd_same (H := K17) (a := qd) (o := .lst ((List.replicate 9 (1 : Int)).map V.int))
      revert y17 u18 e_qd
      generalize upd K17 qd (.lst ((List.replicate 9 (1 : Int)).map V.int)) = K18
      intro y17 u18 e_qd
      have b17 : But wl K17 K18 := But.of y17
      refine ⟨pr, qd, _, _, rfl, rfl, ((b0.trans (b1.trans (b2.trans (b3.trans (b4.trans (b5.trans (b6.trans (b7.trans (b8.trans (b9.trans (b10.trans (b11.trans (b12.trans (b13.trans (b14.trans (b15.trans (b16.trans b17))))))))))))))))) _ _ nrw er0), e_qd, le_line (by rw [List.length_map, List.length_map, List.length_replicate]; omega), fun qe me => ?_⟩
      rw [← List.map_append]
      have y18 := Same.new me (.lst ((rs ++ List.replicate 9 (1 : Int)).map V.int))
      have nq_qe := u18.ne me
      have u19 := u18.keep y18 (Int.le_refl _)
      have e_qe := upd_same (H := K18) (a := qe) (o := .lst ((rs ++ List.replicate 9 (1 : Int)).map V.int))
      revert y18 u19 e_qe
      generalize upd K18 qe (.lst ((rs ++ List.replicate 9 (1 : Int)).map V.int)) = K19
      intro y18 u19 e_qe
      have b18 : But wl K18 K19 := But.of y18
      refine ⟨_, rfl, wl, qe, gs, rs ++ List.replicate 9 1, _, rfl, e_qe, nq_qe, by omega, by omega, by decide, z1, z2, u19, by omega, fun v2 wy2 K20 iw2 en2 wi2 b19 u20 => ?_⟩
      have sz2 : wy2.size ≤ 18 := by rw [← wy2.nums_len, en2]; omega
      have sm2 := small_sm sm1 en2
      refine ⟨_, rfl, wl, _, rfl, u20, by omega, fun dd3 uu3 K21 b20 u21 hd3 ok3 sz3 dp3 => ?_⟩
      refine ⟨(by show 4 ≤ sizeLine; decide), fun qw mw => ?_⟩
      have y21 := Same.new mw (.lst [v, uu2, v2, uu3])
      have nq_qw := u21.ne mw
      have u22 := u21.keep y21 (Int.le_refl _)
      have e_qw := upd_same (H := K21) (a := qw) (o := .lst [v, uu2, v2, uu3])
      revert y21 u22 e_qw
      generalize upd K21 qw (.lst [v, uu2, v2, uu3]) = K22
      intro y21 u22 e_qw
      have b21 : But wl K21 K22 := But.of y21
      have iwk := iw0.mono (u0.tups (b0.trans (b1.trans (b2.trans (b3.trans (b4.trans (b5.trans (b6.trans (b7.trans (b8.trans (b9.trans (b10.trans (b11.trans (b12.trans (b13.trans (b14.trans (b15.trans (b16.trans (b17.trans (b18.trans (b19.trans (b20.trans b21))))))))))))))))))))))
      have Aw : GwA (off wl K22) [v, uu2, v2, uu3] := GwA.cons (gw_wy u22 iwk sm (by omega)) (GwA.cons ((gw_ok hd2 ok2 (by omega) (by omega)).mono (off_but (b16.trans (b17.trans (b18.trans (b19.trans (b20.trans b21))))))) (GwA.cons (gw_wy u22 (iw2.mono (u20.tups (b20.trans b21))) sm2 (by omega)) (GwA.cons ((gw_ok hd3 ok3 (by omega) (by omega)).mono (off_but b21)) GwA.nil)))
      refine ⟨_, rfl, wl, 11, _, rfl, by decide, by decide, u22, by omega, fun r3 K23 r3a r3b b22 u23 => ?_⟩
      refine ⟨_, rfl, t1, fun qf mf => ?_⟩
      have y23 := Same.new mf (.lst [.int 3])
      have nq_qf := u23.ne mf
      have u24 := u23.keep y23 (Int.le_refl _)
      have e_qf := upd_same (H := K23) (a := qf) (o := .lst [.int 3])
      revert y23 u24 e_qf
      generalize upd K23 qf (.lst [.int 3]) = K24
      intro y23 u24 e_qf
      have b23 : But wl K23 K24 := But.of y23
      have Ff : Gw (off wl K24) (.ref qf) := gw_ints (ns := [3]) ((off_ne nq_qf).trans e_qf) (fun i hi => by rw [List.mem_singleton.mp hi]; decide) (by simp)
      refine ⟨10, 39, rfl, rfl, ⟨by decide, by decide, by decide⟩, (by show 9 ≤ sizeLine; decide), fun qm mm => ?_⟩
      have y24 := Same.new mm (.lst [.int r3, .int 0, .int 10, .int (-1), .bl true, .non, .str "3", .ref qf, .int (10 ^ (39 : Int).toNat)])
      have nq_qm := u24.ne mm
      have u25 := u24.keep y24 (Int.le_refl _)
      have e_qm := upd_same (H := K24) (a := qm) (o := .lst [.int r3, .int 0, .int 10, .int (-1), .bl true, .non, .str "3", .ref qf, .int (10 ^ (39 : Int).toNat)])
      revert y24 u25 e_qm
      generalize upd K24 qm (.lst [.int r3, .int 0, .int 10, .int (-1), .bl true, .non, .str "3", .ref qf, .int (10 ^ (39 : Int).toNat)]) = K25
      intro y24 u25 e_qm
      have b24 : But wl K24 K25 := But.of y24
      have Am : GpA (off wl K25) [.int r3, .int 0, .int 10, .int (-1), .bl true, .non, .str "3", .ref qf, .int (10 ^ (39 : Int).toNat)] := GpA.cons (gp_int _ (Nat.lt_of_lt_of_le (show _ < 100 by omega) (by decide))) (GpA.cons (gp_int _ (by decide)) (GpA.cons (gp_int _ (by decide)) (GpA.cons (gp_int _ (by decide)) (GpA.cons (gp_bl _) (GpA.cons gp_non (GpA.cons (gp_str _ (by decide +kernel)) (GpA.cons ((Ff.mono (off_but b24)).gp) (GpA.cons (gp_int _ (by decide)) GpA.nil))))))))
      refine ⟨_, rfl, wl, 9, _, rfl, by decide, by decide, u25, by omega, fun r4 K26 r4a r4b b25 u26 => ?_⟩
      obtain ⟨xm, hxm, hxm2⟩ := pick (xs := [.int r3, .int 0, .int 10, .int (-1), .bl true, .non, .str "3", .ref qf, .int (10 ^ (39 : Int).toNat)]) r4a r4b
      refine ⟨qm, _, _, xm, rfl, rfl, SqL.of (b25 _ _ nq_qm e_qm), hxm, ?_⟩
      refine ⟨_, rfl, _, _, rfl, rfl, _, rfl, _, rfl, 10, 39, rfl, rfl, ⟨by decide, by decide, by decide⟩, t1, fun qg mg2 => ?_⟩
      have y26 := Same.new mg2 (.lst [.int 0])
      have nq_qg := u26.ne mg2
      have u27 := u26.keep y26 (Int.le_refl _)
      have e_qg := upd_same (H := K26) (a := qg) (o := .lst [.int 0])
      revert y26 u27 e_qg
      generalize upd K26 qg (.lst [.int 0]) = K27
      intro y26 u27 e_qg
      have b26 : But wl K26 K27 := But.of y26
      have Fg : Gw (off wl K27) (.ref qg) := gw_ints (ns := [0]) ((off_ne nq_qg).trans e_qg) (fun i hi => by rw [List.mem_singleton.mp hi]; decide) (by simp)
      refine ⟨(by show 9 ≤ sizeLine; decide), fun qh mh => ?_⟩
      have y27 := Same.new mh (.lst [V.int 0, .int (mo - 1), .int mo, .int (-1), .int (10 ^ (39 : Int).toNat), .bl true, .non, .str "0", .ref qg])
      have nq_qh := u27.ne mh
      have u28 := u27.keep y27 (Int.le_refl _)
      have e_qh := upd_same (H := K27) (a := qh) (o := .lst [V.int 0, .int (mo - 1), .int mo, .int (-1), .int (10 ^ (39 : Int).toNat), .bl true, .non, .str "0", .ref qg])
      revert y27 u28 e_qh
      generalize upd K27 qh (.lst [V.int 0, .int (mo - 1), .int mo, .int (-1), .int (10 ^ (39 : Int).toNat), .bl true, .non, .str "0", .ref qg]) = K28
      intro y27 u28 e_qh
      have b27 : But wl K27 K28 := But.of y27
      refine ⟨_, rfl, _, rfl, _, rfl, 10, 6, rfl, rfl, ⟨by decide, by decide, by decide⟩, wl, _, _, rfl, (by decide), (by decide), u28, by omega, fun r5 K29 r5a r5b b28 u29 => ⟨_, _, rfl, rfl, ?_⟩⟩
      refine ⟨_, rfl, _, rfl, 10, 6, rfl, rfl, ⟨by decide, by decide, by decide⟩, wl, _, _, rfl, (by decide), (by decide), u29, by omega, fun r6 K30 r6a r6b b29 u30 => ⟨_, _, rfl, rfl, ?_⟩⟩
      have p6 : (10 : Int) ^ (6 : Int).toNat = 1000000 := by decide
      rw [p6] at r5b r6b
      refine ⟨(by show 3 ≤ sizeLine; decide), fun qi mi => ?_⟩
      have y30 := Same.new mi (.lst [V.int (mo + r5), V.int (-1 - r6), V.bl false])
      have nq_qi := u30.ne mi
      have u31 := u30.keep y30 (Int.le_refl _)
      have e_qi := upd_same (H := K30) (a := qi) (o := .lst [V.int (mo + r5), V.int (-1 - r6), V.bl false])
      revert y30 u31 e_qi
      generalize upd K30 qi (.lst [V.int (mo + r5), V.int (-1 - r6), V.bl false]) = K31
      intro y30 u31 e_qi
      have b30 : But wl K30 K31 := But.of y30
      refine ⟨qh, qi, _, _, rfl, rfl, ((b28.trans (b29.trans b30)) _ _ nq_qh e_qh), e_qi, le_line (by show 9 + 3 ≤ 1000; decide), fun qj mj => ?_⟩
      have y31 := Same.new mj (.lst ([V.int 0, .int (mo - 1), .int mo, .int (-1), .int (10 ^ (39 : Int).toNat), .bl true, .non, .str "0", .ref qg] ++ [V.int (mo + r5), V.int (-1 - r6), V.bl false]))
      have nq_qj := u31.ne mj
      have u32 := u31.keep y31 (Int.le_refl _)
      have e_qj := upd_same (H := K31) (a := qj) (o := .lst ([V.int 0, .int (mo - 1), .int mo, .int (-1), .int (10 ^ (39 : Int).toNat), .bl true, .non, .str "0", .ref qg] ++ [V.int (mo + r5), V.int (-1 - r6), V.bl false]))
      revert y31 u32 e_qj
      generalize upd K31 qj (.lst ([V.int 0, .int (mo - 1), .int mo, .int (-1), .int (10 ^ (39 : Int).toNat), .bl true, .non, .str "0", .ref qg] ++ [V.int (mo + r5), V.int (-1 - r6), V.bl false])) = K32
      intro y31 u32 e_qj
      have b31 : But wl K31 K32 := But.of y31
      have An : GpA (off wl K32) ([V.int 0, .int (mo - 1), .int mo, .int (-1), .int (10 ^ (39 : Int).toNat), .bl true, .non, .str "0", .ref qg] ++ [V.int (mo + r5), V.int (-1 - r6), V.bl false]) := by
        have big : ∀ x : Int, x.natAbs < 10000000000 → x.natAbs < 10 ^ 40 := fun x h => Nat.lt_trans h (by decide)
        exact GpA.cons (gp_int _ (by decide)) (GpA.cons (gp_int _ (big _ (by omega))) (GpA.cons (gp_int _ (big _ (by omega))) (GpA.cons (gp_int _ (by decide)) (GpA.cons (gp_int _ (by decide)) (GpA.cons (gp_bl _) (GpA.cons gp_non (GpA.cons (gp_str _ (by decide +kernel)) (GpA.cons ((Fg.mono (off_but (b27.trans (b28.trans (b29.trans (b30.trans b31)))))).gp) (GpA.cons (gp_int _ (big _ (by omega))) (GpA.cons (gp_int _ (big _ (by omega))) (GpA.cons (gp_bl _) GpA.nil)))))))))))
      refine ⟨_, rfl, _, rfl, wl, 12, _, rfl, by decide, by decide, u32, by omega, fun r7 K33 r7a r7b b32 u33 => ?_⟩
      obtain ⟨xn, hxn, hxn2⟩ := pick (xs := ([V.int 0, .int (mo - 1), .int mo, .int (-1), .int (10 ^ (39 : Int).toNat), .bl true, .non, .str "0", .ref qg] ++ [V.int (mo + r5), V.int (-1 - r6), V.bl false])) r7a r7b
      refine ⟨qj, _, _, xn, rfl, rfl, SqL.of (b32 _ _ nq_qj e_qj), hxn, ?_⟩
      refine ⟨_, rfl, _, rfl, wl, 7, _, rfl, by decide, by decide, u33, by omega, fun r_xr K34 ra_xr rb_xr b33 u34 => ?_⟩
      obtain ⟨xr, h_xr, m_xr⟩ := pick (xs := [.ref pr, .ref q5, .ref q6, .ref q7, .ref qa, .non, .str "12"]) ra_xr rb_xr
      refine ⟨qr, _, _, xr, rfl, rfl, SqL.of ((b13.trans (b14.trans (b15.trans (b16.trans (b17.trans (b18.trans (b19.trans (b20.trans (b21.trans (b22.trans (b23.trans (b24.trans (b25.trans (b26.trans (b27.trans (b28.trans (b29.trans (b30.trans (b31.trans (b32.trans b33)))))))))))))))))))) _ _ nq_qr e_qr), h_xr, ?_⟩
      refine ⟨_, rfl, _, rfl, wl, 9, _, rfl, by decide, by decide, u34, by omega, fun r_xt K35 ra_xt rb_xt b34 u35 => ?_⟩
      obtain ⟨xt, h_xt, m_xt⟩ := pick (xs := [.str (sgText gs), .str (sgText gs ++ "+"), .str ("*" ++ sgText gs), .str "", .str (sgText gs ++ " "), .non, .ref qb, .str "/", .str (revS (sgText gs))]) ra_xt rb_xt
      refine ⟨qt, _, _, xt, rfl, rfl, SqL.of ((b15.trans (b16.trans (b17.trans (b18.trans (b19.trans (b20.trans (b21.trans (b22.trans (b23.trans (b24.trans (b25.trans (b26.trans (b27.trans (b28.trans (b29.trans (b30.trans (b31.trans (b32.trans (b33.trans b34))))))))))))))))))) _ _ nq_qt e_qt), h_xt, ?_⟩
      refine ⟨_, rfl, _, rfl, wl, 4, _, rfl, by decide, by decide, u35, by omega, fun r_xw K36 ra_xw rb_xw b35 u36 => ?_⟩
      obtain ⟨xw, h_xw, m_xw⟩ := pick (xs := [v, uu2, v2, uu3]) ra_xw rb_xw
      refine ⟨qw, _, _, xw, rfl, rfl, SqL.of ((b22.trans (b23.trans (b24.trans (b25.trans (b26.trans (b27.trans (b28.trans (b29.trans (b30.trans (b31.trans (b32.trans (b33.trans (b34.trans b35))))))))))))) _ _ nq_qw e_qw), h_xw, ?_⟩
      obtain ⟨dm, m1', m2'⟩ := ((Am xm hxm2).mono (off_but (b25.trans (b26.trans (b27.trans (b28.trans (b29.trans (b30.trans (b31.trans (b32.trans (b33.trans (b34.trans b35)))))))))))).mono off_le
      obtain ⟨dn, n1', n2'⟩ := ((An xn hxn2).mono (off_but (b32.trans (b33.trans (b34.trans b35))))).mono off_le
      obtain ⟨dr, r1', r2', r3', r4'⟩ := ((Ar xr m_xr).mono (off_but (b13.trans (b14.trans (b15.trans (b16.trans (b17.trans (b18.trans (b19.trans (b20.trans (b21.trans (b22.trans (b23.trans (b24.trans (b25.trans (b26.trans (b27.trans (b28.trans (b29.trans (b30.trans (b31.trans (b32.trans (b33.trans (b34.trans b35)))))))))))))))))))))))).mono off_le
      obtain ⟨dt, t1', t2', t3', t4'⟩ := ((At xt m_xt).mono (off_but (b15.trans (b16.trans (b17.trans (b18.trans (b19.trans (b20.trans (b21.trans (b22.trans (b23.trans (b24.trans (b25.trans (b26.trans (b27.trans (b28.trans (b29.trans (b30.trans (b31.trans (b32.trans (b33.trans (b34.trans b35)))))))))))))))))))))).mono off_le
      obtain ⟨dw, w1', w2', w3', w4'⟩ := ((Aw xw m_xw).mono (off_but (b22.trans (b23.trans (b24.trans (b25.trans (b26.trans (b27.trans (b28.trans (b29.trans (b30.trans (b31.trans (b32.trans (b33.trans (b34.trans b35))))))))))))))).mono off_le
      obtain ⟨d0, a1', a2', a3', a4'⟩ := (gw_ints ((b0.trans (b1.trans (b2.trans (b3.trans (b4.trans (b5.trans (b6.trans (b7.trans (b8.trans (b9.trans (b10.trans (b11.trans (b12.trans (b13.trans (b14.trans (b15.trans (b16.trans (b17.trans (b18.trans (b19.trans (b20.trans (b21.trans (b22.trans (b23.trans (b24.trans (b25.trans (b26.trans (b27.trans (b28.trans (b29.trans (b30.trans (b31.trans (b32.trans (b33.trans (b34.trans b35))))))))))))))))))))))))))))))))))) _ _ nrw er0) hsm (by omega) : Gw K36 (.ref pr))
      obtain ⟨ds, s1', s2', s3', s4'⟩ := (gw_str (sgText gs) z3 : Gw K36 (.str (sgText gs)))
      obtain ⟨dv, v1', v2', v3', v4'⟩ := (gw_wy u36 (iw0.mono (u0.tups (b0.trans (b1.trans (b2.trans (b3.trans (b4.trans (b5.trans (b6.trans (b7.trans (b8.trans (b9.trans (b10.trans (b11.trans (b12.trans (b13.trans (b14.trans (b15.trans (b16.trans (b17.trans (b18.trans (b19.trans (b20.trans (b21.trans (b22.trans (b23.trans (b24.trans (b25.trans (b26.trans (b27.trans (b28.trans (b29.trans (b30.trans (b31.trans (b32.trans (b33.trans (b34.trans b35))))))))))))))))))))))))))))))))))))) sm (by omega)).mono off_le
      refine ⟨_, rfl, _, rfl, _, rfl, _, rfl, _, rfl, dr, xr, dt, xt, dw, xw, dm, xm, dn, xn, rfl, r1', t1', w1', m1', n1', r2', t2', w2', w3', r4', t4', w4', m2', n2', fun X1 x1 => ⟨true, rfl, iteF ?_⟩⟩
      refine ⟨_, rfl, _, rfl, _, rfl, _, rfl, _, rfl, d0, _, ds, _, dv, v, dm, xm, dn, xn, rfl, Dat.mono x1 _ _ a1', Dat.mono x1 _ _ s1', Dat.mono x1 _ _ v1', Dat.mono x1 _ _ m1', Dat.mono x1 _ _ n1', a2', s2', v2', v3', a4', s4', v4', m2', n2', fun X2 x2 => ⟨true, rfl, iteF ?_⟩⟩
      have y2 := x1.trans x2
      refine ⟨_, rfl, _, rfl, _, rfl, _, rfl, d0, _, dt, xt, dv, v, dm, xm, .int 0, _, rfl, Dat.mono y2 _ _ a1', Dat.mono y2 _ _ t1', Dat.mono y2 _ _ v1', Dat.mono y2 _ _ m1', (by simp only [Dat]), a2', t2', v2', v3', a4', t4', v4', m2', pr_int (by decide), fun X3 x3 => ⟨true, rfl, iteF ?_⟩⟩
      have y3 := y2.trans x3
      refine ⟨_, rfl, _, rfl, _, rfl, _, rfl, dr, xr, ds, _, dw, xw, .int 1, _, dn, xn, rfl, Dat.mono y3 _ _ r1', Dat.mono y3 _ _ s1', Dat.mono y3 _ _ w1', (by simp only [Dat]), Dat.mono y3 _ _ n1', r2', s2', w2', w3', r4', s4', w4', pr_int (by decide), n2', fun X4 x4 => ⟨true, rfl, iteF ?_⟩⟩
      exact ⟨_, _, _, _, _, _, _, _, _, _, rfl, (bb0.trans (b0.trans (b1.trans (b2.trans (b3.trans (b4.trans (b5.trans (b6.trans (b7.trans (b8.trans (b9.trans (b10.trans (b11.trans (b12.trans (b13.trans (b14.trans (b15.trans (b16.trans (b17.trans (b18.trans (b19.trans (b20.trans (b21.trans (b22.trans (b23.trans (b24.trans (b25.trans (b26.trans (b27.trans (b28.trans (b29.trans (b30.trans (b31.trans (b32.trans (b33.trans (b34.trans b35)))))))))))))))))))))))))))))))))))).trans (But.of (y3.trans x4)), (u36.keep (y3.trans x4) (Int.le_refl _)).more (by omega)⟩
    · rintro σ K1 ⟨c7, c8, c9, d1, d2, d3, d4, d5, d6, d7, rfl, bb, uu⟩
      exact ⟨_, _, _, _, _, _, _, _, _, _, _, _, _, _, _, _, rfl, But.same (S.trans g4) nwl (B8.trans ((But.of g9).trans bb))⟩
  · rintro σ H4 ⟨c1, c2, c3, c4, c5, c6, c7, c8, c9, d1, d2, d3, d4, d5, d6, d7, rfl, S⟩
    refine ⟨(by show 0 ≤ sizeLine; decide), fun p5 n5 => ?_⟩
    have e5 := upd_same (H := H4) (a := p5) (o := .lst [])
    obtain ⟨_, a1, a2, a3, a4⟩ := (gw_ints (ns := []) e5 (fun i hi => nomatch hi) (by simp) : Gw (upd H4 p5 (.lst [])) (.ref p5))
    obtain ⟨_, b1, b2, b3, b4⟩ := (gw_str "" (by decide +kernel) : Gw (upd H4 p5 (.lst [])) (.str ""))
    obtain ⟨_, w1, w2, w3, w4⟩ := (gw_non : Gw (upd H4 p5 (.lst [])) .non)
    refine ⟨_, _, _, _, _, _, .int 0, _, .int 0, _, rfl, a1, b1, w1, (by simp only [Dat]), (by simp only [Dat]), a2, b2, w2, w3, a4, b4, w4, pr_int (by decide), pr_int (by decide), fun H6 g6 => ⟨true, rfl, iteT ?_⟩⟩
    refine ⟨t1, fun p7 n7 => ⟨p7, 10, [.int 0], rfl, rfl, upd_same, by decide, by decide, (by show 1 * 10 ≤ sizeLine; decide), fun p8 n8 => ?_⟩⟩
    have e10 : (List.replicate (10 : Int).toNat [V.int 0]).flatten = (List.replicate 10 (0 : Int)).map V.int := rfl
    rw [e10]
    refine ⟨(by show 3 ≤ sizeLine; decide), fun p9 n9 => ?_⟩
    have y9 := Same.new n9 (.tup [.str "+", .int 1, .bl true])
    have e8 := y9 _ _ (upd_same (H := upd H6 p7 (.lst [.int 0])) (a := p8) (o := .lst ((List.replicate 10 (0 : Int)).map V.int)))
    have e9 := upd_same (H := upd (upd H6 p7 (.lst [.int 0])) p8 (.lst ((List.replicate 10 (0 : Int)).map V.int))) (a := p9) (o := .tup [.str "+", .int 1, .bl true])
    revert e8 e9
    generalize upd (upd (upd H6 p7 (.lst [.int 0])) p8 (.lst ((List.replicate 10 (0 : Int)).map V.int))) p9 (.tup [.str "+", .int 1, .bl true]) = H9
    intro e8 e9
    obtain ⟨_, a1, a2, a3, a4⟩ := (gw_ints e8 (fun i hi => by rw [List.eq_of_mem_replicate hi]; decide) (by rw [List.length_replicate]; decide) : Gw H9 (.ref p8))
    obtain ⟨_, b1, b2, b3, b4⟩ := (gw_str "+" (by decide +kernel) : Gw H9 (.str "+"))
    obtain ⟨_, w1, w2, w3, w4⟩ := (gw_tup (ds := [.str "+", .int 1, .bool true]) e9 (by simp only [DatAll]; exact ⟨_, _, rfl, by simp only [Dat], _, _, rfl, by simp only [Dat], _, _, rfl, by simp only [Dat], rfl⟩) (by simp only [OkAll, OkD]; decide +kernel) (by simp [szAll, szD]) (by simp [PyData.depthAll, PyData.depth]) : Gw H9 (.ref p9))
    exact ⟨_, _, _, _, _, _, .int 10, _, .int 0, _, rfl, a1, b1, w1, (by simp only [Dat]), (by simp only [Dat]), a2, b2, w2, w3, a4, b4, w4, pr_int (by decide), pr_int (by decide), fun H6 g6 => q _⟩
end
end Put
set_option Elab.async false
set_option linter.all false
set_option maxRecDepth 100000
set_option maxHeartbeats 2000000
namespace Put
open PySem L2
section
variable {P : Program} {w : World} {K : PySem.W.Frag} {mg : Str → Option Value} {base : Heap} {f : Addr} {fd : FuncData}
theorem ok_how_many_ways0 {aS aN : Addr} (F : Fun K "how_many_ways" "how_many_ways" s_how_many_ways f fd) (C_need_signs : Cal1 P w K mg base "need_signs" 2 ["thing"] (spNeedSigns1 aS)) (C_need_many : Cal1 P w K mg base "need_many" 3 ["thing"] (spNeedMany1 aN)) (C_counts_up_to : Cal P w K mg base "counts_up_to" 2 ["signs", "many"] spCts) : FnOk P w K mg base CX0 4 f fd ["signs", "many"] (spDown (spHow1 aS aN)) := by
  exact (ok_how_many_ways1 F C_need_signs C_need_many C_counts_up_to).down
end
end Put
set_option Elab.async false
set_option linter.all false
set_option maxRecDepth 100000
set_option maxHeartbeats 4000000
namespace Put
open PySem L2
theorem all_mk {l : PySem.W.OpenLaw} {w : World} {K : PySem.W.Frag} {h : Heap} {mg : Str → Option Value} {fa : Addr} (X : K.In h) (G : h.Ns mainGlobals mg) (hfa : mg "law" = some (.ref fa))
    {tM tS1 tS2 tS3 : Tok} {cS : Addr} {odS : Option Addr} {nS : Nat} {slS : Array (Option Value)}
    {tM3 tP1 tP2 tP3 tP4 tP5 tP6 tP7 : Tok} {cP : Addr} {odP : Option Addr} {nP : Nat} {slP : Array (Option Value)}
    {aP aR aS aW aN aL aF aO aA aH aT aM : Addr}
    {aPN : Addr} {aPnm aPq : Str} {aPbs aPsub : List Value} {aPhd aPab : Bool} {aPsn : List Str} {aPcol : Option Bool} {aPdd aPod : Option Addr} {aPk0 aPk1 aPk2 aPk3 aPk5 : Option Value} {aPc : Value} {aPes : Array DictEntry} {aPn : Nat} {aPsl : Array (Option Value)}
    {aRN : Addr} {aRnm aRq : Str} {aRbs aRsub : List Value} {aRhd aRab : Bool} {aRsn : List Str} {aRcol : Option Bool} {aRdd aRod : Option Addr} {aRk0 aRk1 aRk2 aRk3 aRk5 : Option Value} {aRc : Value} {aRes : Array DictEntry} {aRn : Nat} {aRsl : Array (Option Value)}
    {aSN : Addr} {aSnm aSq : Str} {aSbs aSsub : List Value} {aShd aSab : Bool} {aSsn : List Str} {aScol : Option Bool} {aSdd aSod : Option Addr} {aSk0 aSk1 aSk2 aSk3 aSk5 : Option Value} {aSc : Value} {aSes : Array DictEntry} {aSn : Nat} {aSsl : Array (Option Value)}
    {aWN : Addr} {aWnm aWq : Str} {aWbs aWsub : List Value} {aWhd aWab : Bool} {aWsn : List Str} {aWcol : Option Bool} {aWdd aWod : Option Addr} {aWk0 aWk1 aWk2 aWk3 aWk5 : Option Value} {aWc : Value} {aWes : Array DictEntry} {aWn : Nat} {aWsl : Array (Option Value)}
    {aNN : Addr} {aNnm aNq : Str} {aNbs aNsub : List Value} {aNhd aNab : Bool} {aNsn : List Str} {aNcol : Option Bool} {aNdd aNod : Option Addr} {aNk0 aNk1 aNk2 aNk3 aNk5 : Option Value} {aNc : Value} {aNes : Array DictEntry} {aNn : Nat} {aNsl : Array (Option Value)}
    {aFN : Addr} {aFnm aFq : Str} {aFbs aFsub : List Value} {aFhd aFab : Bool} {aFsn : List Str} {aFcol : Option Bool} {aFdd aFod : Option Addr} {aFk0 aFk1 aFk2 aFk3 aFk5 : Option Value} {aFc : Value} {aFes : Array DictEntry} {aFn : Nat} {aFsl : Array (Option Value)}
    {aRcd : ClassData}
    {aScd : ClassData}
    {aWcd : ClassData}
    {aNcd : ClassData}
    {aLcd : ClassData}
    {aFcd : ClassData}
    {aOcd : ClassData}
    {aAcd : ClassData}
    {aHcd : ClassData}
    {aTcd : ClassData}
    {aMcd : ClassData}
{od0 an0 : Option Addr} {sl0 : Array (Option Value)} {oc0 kV0 dc0 pm0 cd0 ct0 : Value} {f0 : Addr}
{od1 an1 : Option Addr} {sl1 : Array (Option Value)} {oc1 kV1 dc1 pm1 cd1 ct1 : Value} {f1 : Addr}
{od2 an2 : Option Addr} {sl2 : Array (Option Value)} {oc2 kV2 dc2 pm2 cd2 ct2 : Value} {f2 : Addr}
{od3 an3 : Option Addr} {sl3 : Array (Option Value)} {oc3 kV3 dc3 pm3 cd3 ct3 : Value} {f3 : Addr}
{od4 an4 : Option Addr} {sl4 : Array (Option Value)} {oc4 kV4 dc4 pm4 cd4 ct4 : Value} {f4 : Addr}
{od5 an5 : Option Addr} {sl5 : Array (Option Value)} {oc5 kV5 dc5 pm5 cd5 ct5 : Value} {f5 : Addr}
{od6 an6 : Option Addr} {sl6 : Array (Option Value)} {oc6 kV6 dc6 pm6 cd6 ct6 : Value} {f6 : Addr}
{od7 an7 : Option Addr} {sl7 : Array (Option Value)} {oc7 kV7 dc7 pm7 cd7 ct7 : Value} {f7 : Addr}
{od8 an8 : Option Addr} {sl8 : Array (Option Value)} {oc8 kV8 dc8 pm8 cd8 ct8 : Value} {f8 : Addr}
{od9 an9 : Option Addr} {sl9 : Array (Option Value)} {oc9 kV9 dc9 pm9 cd9 ct9 : Value} {f9 : Addr}
{od10 an10 : Option Addr} {sl10 : Array (Option Value)} {oc10 kV10 dc10 pm10 cd10 ct10 : Value} {f10 : Addr}
{od11 an11 : Option Addr} {sl11 : Array (Option Value)} {oc11 kV11 dc11 pm11 cd11 ct11 : Value} {f11 : Addr}
{od12 an12 : Option Addr} {sl12 : Array (Option Value)} {oc12 kV12 dc12 pm12 cd12 ct12 : Value} {f12 : Addr}
{od13 an13 : Option Addr} {sl13 : Array (Option Value)} {oc13 kV13 dc13 pm13 cd13 ct13 : Value} {f13 : Addr}
{od14 an14 : Option Addr} {sl14 : Array (Option Value)} {oc14 kV14 dc14 pm14 cd14 ct14 : Value} {f14 : Addr}
{od15 an15 : Option Addr} {sl15 : Array (Option Value)} {oc15 kV15 dc15 pm15 cd15 ct15 : Value} {f15 : Addr}
{od16 an16 : Option Addr} {sl16 : Array (Option Value)} {oc16 kV16 dc16 pm16 cd16 ct16 : Value} {f16 : Addr}
{od17 an17 : Option Addr} {sl17 : Array (Option Value)} {oc17 kV17 dc17 pm17 cd17 ct17 : Value} {f17 : Addr}
{od18 an18 : Option Addr} {sl18 : Array (Option Value)} {oc18 kV18 dc18 pm18 cd18 ct18 : Value} {f18 : Addr}
{od19 an19 : Option Addr} {sl19 : Array (Option Value)} {oc19 kV19 dc19 pm19 cd19 ct19 : Value} {f19 : Addr}
{od20 an20 : Option Addr} {sl20 : Array (Option Value)} {oc20 kV20 dc20 pm20 cd20 ct20 : Value} {f20 : Addr}
{od21 an21 : Option Addr} {sl21 : Array (Option Value)} {oc21 kV21 dc21 pm21 cd21 ct21 : Value} {f21 : Addr}
{od22 an22 : Option Addr} {sl22 : Array (Option Value)} {oc22 kV22 dc22 pm22 cd22 ct22 : Value} {f22 : Addr}
{od23 an23 : Option Addr} {sl23 : Array (Option Value)} {oc23 kV23 dc23 pm23 cd23 ct23 : Value} {f23 : Addr}
{od24 an24 : Option Addr} {sl24 : Array (Option Value)} {oc24 kV24 dc24 pm24 cd24 ct24 : Value} {f24 : Addr}
{od25 an25 : Option Addr} {sl25 : Array (Option Value)} {oc25 kV25 dc25 pm25 cd25 ct25 : Value} {f25 : Addr}
{od26 an26 : Option Addr} {sl26 : Array (Option Value)} {oc26 kV26 dc26 pm26 cd26 ct26 : Value} {f26 : Addr}
{od27 an27 : Option Addr} {sl27 : Array (Option Value)} {oc27 kV27 dc27 pm27 cd27 ct27 : Value} {f27 : Addr}
{od28 an28 : Option Addr} {sl28 : Array (Option Value)} {oc28 kV28 dc28 pm28 cd28 ct28 : Value} {f28 : Addr}
{od29 an29 : Option Addr} {sl29 : Array (Option Value)} {oc29 kV29 dc29 pm29 cd29 ct29 : Value} {f29 : Addr}
{od30 an30 : Option Addr} {sl30 : Array (Option Value)} {oc30 kV30 dc30 pm30 cd30 ct30 : Value} {f30 : Addr}
{od31 an31 : Option Addr} {sl31 : Array (Option Value)} {oc31 kV31 dc31 pm31 cd31 ct31 : Value} {f31 : Addr}
{od32 an32 : Option Addr} {sl32 : Array (Option Value)} {oc32 kV32 dc32 pm32 cd32 ct32 : Value} {f32 : Addr}
{od33 an33 : Option Addr} {sl33 : Array (Option Value)} {oc33 kV33 dc33 pm33 cd33 ct33 : Value} {f33 : Addr}
{od34 an34 : Option Addr} {sl34 : Array (Option Value)} {oc34 kV34 dc34 pm34 cd34 ct34 : Value} {f34 : Addr}
{od35 an35 : Option Addr} {sl35 : Array (Option Value)} {oc35 kV35 dc35 pm35 cd35 ct35 : Value} {f35 : Addr}
{od36 an36 : Option Addr} {sl36 : Array (Option Value)} {oc36 kV36 dc36 pm36 cd36 ct36 : Value} {f36 : Addr}
{od37 an37 : Option Addr} {sl37 : Array (Option Value)} {oc37 kV37 dc37 pm37 cd37 ct37 : Value} {f37 : Addr}
{od38 an38 : Option Addr} {sl38 : Array (Option Value)} {oc38 kV38 dc38 pm38 cd38 ct38 : Value} {f38 : Addr}
{od39 an39 : Option Addr} {sl39 : Array (Option Value)} {oc39 kV39 dc39 pm39 cd39 ct39 : Value} {f39 : Addr}
{od40 an40 : Option Addr} {sl40 : Array (Option Value)} {oc40 kV40 dc40 pm40 cd40 ct40 : Value} {f40 : Addr}
{od41 an41 : Option Addr} {sl41 : Array (Option Value)} {oc41 kV41 dc41 pm41 cd41 ct41 : Value} {f41 : Addr}
{od42 an42 : Option Addr} {sl42 : Array (Option Value)} {oc42 kV42 dc42 pm42 cd42 ct42 : Value} {f42 : Addr}
{od43 an43 : Option Addr} {sl43 : Array (Option Value)} {oc43 kV43 dc43 pm43 cd43 ct43 : Value} {f43 : Addr}
{od44 an44 : Option Addr} {sl44 : Array (Option Value)} {oc44 kV44 dc44 pm44 cd44 ct44 : Value} {f44 : Addr}
{od45 an45 : Option Addr} {sl45 : Array (Option Value)} {oc45 kV45 dc45 pm45 cd45 ct45 : Value} {f45 : Addr}
{od46 an46 : Option Addr} {sl46 : Array (Option Value)} {oc46 kV46 dc46 pm46 cd46 ct46 : Value} {f46 : Addr}
    (a0 : PySem.W.nsIn K mainGlobals "is_whole" = some (some (.ref f0))) (l0 : K.lookup f0 = some ⟨oc0, od0, .func (PySem.W.fnOf "is_whole" "is_whole" (defArgs s_is_whole) (defBody s_is_whole) (defScope s_is_whole) .none kV0 dc0 pm0 an0 cd0 ct0), sl0⟩) (c0 : PySem.W.codeIn K cd0 "is_whole" = true) (k0 : PySem.W.keepIn K (.ref f0) = true)
    (a1 : PySem.W.nsIn K mainGlobals "is_row" = some (some (.ref f1))) (l1 : K.lookup f1 = some ⟨oc1, od1, .func (PySem.W.fnOf "is_row" "is_row" (defArgs s_is_row) (defBody s_is_row) (defScope s_is_row) .none kV1 dc1 pm1 an1 cd1 ct1), sl1⟩) (c1 : PySem.W.codeIn K cd1 "is_row" = true) (k1 : PySem.W.keepIn K (.ref f1) = true)
    (a2 : PySem.W.nsIn K mainGlobals "is_signs" = some (some (.ref f2))) (l2 : K.lookup f2 = some ⟨oc2, od2, .func (PySem.W.fnOf "is_signs" "is_signs" (defArgs s_is_signs) (defBody s_is_signs) (defScope s_is_signs) .none kV2 dc2 pm2 an2 cd2 ct2), sl2⟩) (c2 : PySem.W.codeIn K cd2 "is_signs" = true) (k2 : PySem.W.keepIn K (.ref f2) = true)
    (a3 : PySem.W.nsIn K mainGlobals "is_many" = some (some (.ref f3))) (l3 : K.lookup f3 = some ⟨oc3, od3, .func (PySem.W.fnOf "is_many" "is_many" (defArgs s_is_many) (defBody s_is_many) (defScope s_is_many) .none kV3 dc3 pm3 an3 cd3 ct3), sl3⟩) (c3 : PySem.W.codeIn K cd3 "is_many" = true) (k3 : PySem.W.keepIn K (.ref f3) = true)
    (a4 : PySem.W.nsIn K mainGlobals "is_sign" = some (some (.ref f4))) (l4 : K.lookup f4 = some ⟨oc4, od4, .func (PySem.W.fnOf "is_sign" "is_sign" (defArgs s_is_sign) (defBody s_is_sign) (defScope s_is_sign) .none kV4 dc4 pm4 an4 cd4 ct4), sl4⟩) (c4 : PySem.W.codeIn K cd4 "is_sign" = true) (k4 : PySem.W.keepIn K (.ref f4) = true)
    (a5 : PySem.W.nsIn K mainGlobals "is_way" = some (some (.ref f5))) (l5 : K.lookup f5 = some ⟨oc5, od5, .func (PySem.W.fnOf "is_way" "is_way" (defArgs s_is_way) (defBody s_is_way) (defScope s_is_way) .none kV5 dc5 pm5 an5 cd5 ct5), sl5⟩) (c5 : PySem.W.codeIn K cd5 "is_way" = true) (k5 : PySem.W.keepIn K (.ref f5) = true)
    (a6 : PySem.W.nsIn K mainGlobals "need_row" = some (some (.ref f6))) (l6 : K.lookup f6 = some ⟨oc6, od6, .func (PySem.W.fnOf "need_row" "need_row" (defArgs s_need_row) (defBody s_need_row) (defScope s_need_row) .none kV6 dc6 pm6 an6 cd6 ct6), sl6⟩) (c6 : PySem.W.codeIn K cd6 "need_row" = true) (k6 : PySem.W.keepIn K (.ref f6) = true)
    (a7 : PySem.W.nsIn K mainGlobals "need_signs" = some (some (.ref f7))) (l7 : K.lookup f7 = some ⟨oc7, od7, .func (PySem.W.fnOf "need_signs" "need_signs" (defArgs s_need_signs) (defBody s_need_signs) (defScope s_need_signs) .none kV7 dc7 pm7 an7 cd7 ct7), sl7⟩) (c7 : PySem.W.codeIn K cd7 "need_signs" = true) (k7 : PySem.W.keepIn K (.ref f7) = true)
    (a8 : PySem.W.nsIn K mainGlobals "need_way" = some (some (.ref f8))) (l8 : K.lookup f8 = some ⟨oc8, od8, .func (PySem.W.fnOf "need_way" "need_way" (defArgs s_need_way) (defBody s_need_way) (defScope s_need_way) .none kV8 dc8 pm8 an8 cd8 ct8), sl8⟩) (c8 : PySem.W.codeIn K cd8 "need_way" = true) (k8 : PySem.W.keepIn K (.ref f8) = true)
    (a9 : PySem.W.nsIn K mainGlobals "need_many" = some (some (.ref f9))) (l9 : K.lookup f9 = some ⟨oc9, od9, .func (PySem.W.fnOf "need_many" "need_many" (defArgs s_need_many) (defBody s_need_many) (defScope s_need_many) .none kV9 dc9 pm9 an9 cd9 ct9), sl9⟩) (c9 : PySem.W.codeIn K cd9 "need_many" = true) (k9 : PySem.W.keepIn K (.ref f9) = true)
    (a10 : PySem.W.nsIn K mainGlobals "numbers_of" = some (some (.ref f10))) (l10 : K.lookup f10 = some ⟨oc10, od10, .func (PySem.W.fnOf "numbers_of" "numbers_of" (defArgs s_numbers_of) (defBody s_numbers_of) (defScope s_numbers_of) .none kV10 dc10 pm10 an10 cd10 ct10), sl10⟩) (c10 : PySem.W.codeIn K cd10 "numbers_of" = true) (k10 : PySem.W.keepIn K (.ref f10) = true)
    (a11 : PySem.W.nsIn K mainGlobals "list_numbers" = some (some (.ref f11))) (l11 : K.lookup f11 = some ⟨oc11, od11, .func (PySem.W.fnOf "list_numbers" "list_numbers" (defArgs s_list_numbers) (defBody s_list_numbers) (defScope s_list_numbers) .none kV11 dc11 pm11 an11 cd11 ct11), sl11⟩) (c11 : PySem.W.codeIn K cd11 "list_numbers" = true) (k11 : PySem.W.keepIn K (.ref f11) = true)
    (a12 : PySem.W.nsIn K mainGlobals "signs_of" = some (some (.ref f12))) (l12 : K.lookup f12 = some ⟨oc12, od12, .func (PySem.W.fnOf "signs_of" "signs_of" (defArgs s_signs_of) (defBody s_signs_of) (defScope s_signs_of) .none kV12 dc12 pm12 an12 cd12 ct12), sl12⟩) (c12 : PySem.W.codeIn K cd12 "signs_of" = true) (k12 : PySem.W.keepIn K (.ref f12) = true)
    (a13 : PySem.W.nsIn K mainGlobals "join_signs" = some (some (.ref f13))) (l13 : K.lookup f13 = some ⟨oc13, od13, .func (PySem.W.fnOf "join_signs" "join_signs" (defArgs s_join_signs) (defBody s_join_signs) (defScope s_join_signs) .none kV13 dc13 pm13 an13 cd13 ct13), sl13⟩) (c13 : PySem.W.codeIn K cd13 "join_signs" = true) (k13 : PySem.W.keepIn K (.ref f13) = true)
    (a14 : PySem.W.nsIn K mainGlobals "stretches_of" = some (some (.ref f14))) (l14 : K.lookup f14 = some ⟨oc14, od14, .func (PySem.W.fnOf "stretches_of" "stretches_of" (defArgs s_stretches_of) (defBody s_stretches_of) (defScope s_stretches_of) .none kV14 dc14 pm14 an14 cd14 ct14), sl14⟩) (c14 : PySem.W.codeIn K cd14 "stretches_of" = true) (k14 : PySem.W.keepIn K (.ref f14) = true)
    (a15 : PySem.W.nsIn K mainGlobals "list_stretches" = some (some (.ref f15))) (l15 : K.lookup f15 = some ⟨oc15, od15, .func (PySem.W.fnOf "list_stretches" "list_stretches" (defArgs s_list_stretches) (defBody s_list_stretches) (defScope s_list_stretches) .none kV15 dc15 pm15 an15 cd15 ct15), sl15⟩) (c15 : PySem.W.codeIn K cd15 "list_stretches" = true) (k15 : PySem.W.keepIn K (.ref f15) = true)
    (a16 : PySem.W.nsIn K mainGlobals "brackets_in" = some (some (.ref f16))) (l16 : K.lookup f16 = some ⟨oc16, od16, .func (PySem.W.fnOf "brackets_in" "brackets_in" (defArgs s_brackets_in) (defBody s_brackets_in) (defScope s_brackets_in) .none kV16 dc16 pm16 an16 cd16 ct16), sl16⟩) (c16 : PySem.W.codeIn K cd16 "brackets_in" = true) (k16 : PySem.W.keepIn K (.ref f16) = true)
    (a17 : PySem.W.nsIn K mainGlobals "count_brackets" = some (some (.ref f17))) (l17 : K.lookup f17 = some ⟨oc17, od17, .func (PySem.W.fnOf "count_brackets" "count_brackets" (defArgs s_count_brackets) (defBody s_count_brackets) (defScope s_count_brackets) .none kV17 dc17 pm17 an17 cd17 ct17), sl17⟩) (c17 : PySem.W.codeIn K cd17 "count_brackets" = true) (k17 : PySem.W.keepIn K (.ref f17) = true)
    (a18 : PySem.W.nsIn K mainGlobals "own_sign" = some (some (.ref f18))) (l18 : K.lookup f18 = some ⟨oc18, od18, .func (PySem.W.fnOf "own_sign" "own_sign" (defArgs s_own_sign) (defBody s_own_sign) (defScope s_own_sign) .none kV18 dc18 pm18 an18 cd18 ct18), sl18⟩) (c18 : PySem.W.codeIn K cd18 "own_sign" = true) (k18 : PySem.W.keepIn K (.ref f18) = true)
    (a19 : PySem.W.nsIn K mainGlobals "brackets_around" = some (some (.ref f19))) (l19 : K.lookup f19 = some ⟨oc19, od19, .func (PySem.W.fnOf "brackets_around" "brackets_around" (defArgs s_brackets_around) (defBody s_brackets_around) (defScope s_brackets_around) .none kV19 dc19 pm19 an19 cd19 ct19), sl19⟩) (c19 : PySem.W.codeIn K cd19 "brackets_around" = true) (k19 : PySem.W.keepIn K (.ref f19) = true)
    (a20 : PySem.W.nsIn K mainGlobals "left_in_brackets" = some (some (.ref f20))) (l20 : K.lookup f20 = some ⟨oc20, od20, .func (PySem.W.fnOf "left_in_brackets" "left_in_brackets" (defArgs s_left_in_brackets) (defBody s_left_in_brackets) (defScope s_left_in_brackets) .none kV20 dc20 pm20 an20 cd20 ct20), sl20⟩) (c20 : PySem.W.codeIn K cd20 "left_in_brackets" = true) (k20 : PySem.W.keepIn K (.ref f20) = true)
    (a21 : PySem.W.nsIn K mainGlobals "right_in_brackets" = some (some (.ref f21))) (l21 : K.lookup f21 = some ⟨oc21, od21, .func (PySem.W.fnOf "right_in_brackets" "right_in_brackets" (defArgs s_right_in_brackets) (defBody s_right_in_brackets) (defScope s_right_in_brackets) .none kV21 dc21 pm21 an21 cd21 ct21), sl21⟩) (c21 : PySem.W.codeIn K cd21 "right_in_brackets" = true) (k21 : PySem.W.keepIn K (.ref f21) = true)
    (a22 : PySem.W.nsIn K mainGlobals "how_many_ways" = some (some (.ref f22))) (l22 : K.lookup f22 = some ⟨oc22, od22, .func (PySem.W.fnOf "how_many_ways" "how_many_ways" (defArgs s_how_many_ways) (defBody s_how_many_ways) (defScope s_how_many_ways) .none kV22 dc22 pm22 an22 cd22 ct22), sl22⟩) (c22 : PySem.W.codeIn K cd22 "how_many_ways" = true) (k22 : PySem.W.keepIn K (.ref f22) = true)
    (a23 : PySem.W.nsIn K mainGlobals "nth_way" = some (some (.ref f23))) (l23 : K.lookup f23 = some ⟨oc23, od23, .func (PySem.W.fnOf "nth_way" "nth_way" (defArgs s_nth_way) (defBody s_nth_way) (defScope s_nth_way) .none kV23 dc23 pm23 an23 cd23 ct23), sl23⟩) (c23 : PySem.W.codeIn K cd23 "nth_way" = true) (k23 : PySem.W.keepIn K (.ref f23) = true)
    (a24 : PySem.W.nsIn K mainGlobals "number_of_way" = some (some (.ref f24))) (l24 : K.lookup f24 = some ⟨oc24, od24, .func (PySem.W.fnOf "number_of_way" "number_of_way" (defArgs s_number_of_way) (defBody s_number_of_way) (defScope s_number_of_way) .none kV24 dc24 pm24 an24 cd24 ct24), sl24⟩) (c24 : PySem.W.codeIn K cd24 "number_of_way" = true) (k24 : PySem.W.keepIn K (.ref f24) = true)
    (a25 : PySem.W.nsIn K mainGlobals "has_signs_among" = some (some (.ref f25))) (l25 : K.lookup f25 = some ⟨oc25, od25, .func (PySem.W.fnOf "has_signs_among" "has_signs_among" (defArgs s_has_signs_among) (defBody s_has_signs_among) (defScope s_has_signs_among) .none kV25 dc25 pm25 an25 cd25 ct25), sl25⟩) (c25 : PySem.W.codeIn K cd25 "has_signs_among" = true) (k25 : PySem.W.keepIn K (.ref f25) = true)
    (a26 : PySem.W.nsIn K mainGlobals "counts_up_to" = some (some (.ref f26))) (l26 : K.lookup f26 = some ⟨oc26, od26, .func (PySem.W.fnOf "counts_up_to" "counts_up_to" (defArgs s_counts_up_to) (defBody s_counts_up_to) (defScope s_counts_up_to) .none kV26 dc26 pm26 an26 cd26 ct26), sl26⟩) (c26 : PySem.W.codeIn K cd26 "counts_up_to" = true) (k26 : PySem.W.keepIn K (.ref f26) = true)
    (a27 : PySem.W.nsIn K mainGlobals "ways_by_cut" = some (some (.ref f27))) (l27 : K.lookup f27 = some ⟨oc27, od27, .func (PySem.W.fnOf "ways_by_cut" "ways_by_cut" (defArgs s_ways_by_cut) (defBody s_ways_by_cut) (defScope s_ways_by_cut) .none kV27 dc27 pm27 an27 cd27 ct27), sl27⟩) (c27 : PySem.W.codeIn K cd27 "ways_by_cut" = true) (k27 : PySem.W.keepIn K (.ref f27) = true)
    (a28 : PySem.W.nsIn K mainGlobals "way_at" = some (some (.ref f28))) (l28 : K.lookup f28 = some ⟨oc28, od28, .func (PySem.W.fnOf "way_at" "way_at" (defArgs s_way_at) (defBody s_way_at) (defScope s_way_at) .none kV28 dc28 pm28 an28 cd28 ct28), sl28⟩) (c28 : PySem.W.codeIn K cd28 "way_at" = true) (k28 : PySem.W.keepIn K (.ref f28) = true)
    (a29 : PySem.W.nsIn K mainGlobals "number_at" = some (some (.ref f29))) (l29 : K.lookup f29 = some ⟨oc29, od29, .func (PySem.W.fnOf "number_at" "number_at" (defArgs s_number_at) (defBody s_number_at) (defScope s_number_at) .none kV29 dc29 pm29 an29 cd29 ct29), sl29⟩) (c29 : PySem.W.codeIn K cd29 "number_at" = true) (k29 : PySem.W.keepIn K (.ref f29) = true)
    (a30 : PySem.W.nsIn K mainGlobals "_law_mixed" = some (some (.ref f30))) (l30 : K.lookup f30 = some ⟨oc30, od30, .func (PySem.W.fnOf "_law_mixed" "_law_mixed" (defArgs s__law_mixed) (defBody s__law_mixed) (defScope s__law_mixed) .none kV30 dc30 pm30 an30 cd30 ct30), sl30⟩) (c30 : PySem.W.codeIn K cd30 "_law_mixed" = true) (k30 : PySem.W.keepIn K (.ref f30) = true)
    (a31 : PySem.W.nsIn K mainGlobals "_law_well" = some (some (.ref f31))) (l31 : K.lookup f31 = some ⟨oc31, od31, .func (PySem.W.fnOf "_law_well" "_law_well" (defArgs s__law_well) (defBody s__law_well) (defScope s__law_well) .none kV31 dc31 pm31 an31 cd31 ct31), sl31⟩) (c31 : PySem.W.codeIn K cd31 "_law_well" = true) (k31 : PySem.W.keepIn K (.ref f31) = true)
    (a32 : PySem.W.nsIn K mainGlobals "_law_draw" = some (some (.ref f32))) (l32 : K.lookup f32 = some ⟨oc32, od32, .func (PySem.W.fnOf "_law_draw" "_law_draw" (defArgs s__law_draw) (defBody s__law_draw) (defScope s__law_draw) .none kV32 dc32 pm32 an32 cd32 ct32), sl32⟩) (c32 : PySem.W.codeIn K cd32 "_law_draw" = true) (k32 : PySem.W.keepIn K (.ref f32) = true)
    (a33 : PySem.W.nsIn K mainGlobals "_law_number" = some (some (.ref f33))) (l33 : K.lookup f33 = some ⟨oc33, od33, .func (PySem.W.fnOf "_law_number" "_law_number" (defArgs s__law_number) (defBody s__law_number) (defScope s__law_number) .none kV33 dc33 pm33 an33 cd33 ct33), sl33⟩) (c33 : PySem.W.codeIn K cd33 "_law_number" = true) (k33 : PySem.W.keepIn K (.ref f33) = true)
    (a34 : PySem.W.nsIn K mainGlobals "_law_row" = some (some (.ref f34))) (l34 : K.lookup f34 = some ⟨oc34, od34, .func (PySem.W.fnOf "_law_row" "_law_row" (defArgs s__law_row) (defBody s__law_row) (defScope s__law_row) .none kV34 dc34 pm34 an34 cd34 ct34), sl34⟩) (c34 : PySem.W.codeIn K cd34 "_law_row" = true) (k34 : PySem.W.keepIn K (.ref f34) = true)
    (a35 : PySem.W.nsIn K mainGlobals "_law_signs" = some (some (.ref f35))) (l35 : K.lookup f35 = some ⟨oc35, od35, .func (PySem.W.fnOf "_law_signs" "_law_signs" (defArgs s__law_signs) (defBody s__law_signs) (defScope s__law_signs) .none kV35 dc35 pm35 an35 cd35 ct35), sl35⟩) (c35 : PySem.W.codeIn K cd35 "_law_signs" = true) (k35 : PySem.W.keepIn K (.ref f35) = true)
    (a36 : PySem.W.nsIn K mainGlobals "_law_way" = some (some (.ref f36))) (l36 : K.lookup f36 = some ⟨oc36, od36, .func (PySem.W.fnOf "_law_way" "_law_way" (defArgs s__law_way) (defBody s__law_way) (defScope s__law_way) .none kV36 dc36 pm36 an36 cd36 ct36), sl36⟩) (c36 : PySem.W.codeIn K cd36 "_law_way" = true) (k36 : PySem.W.keepIn K (.ref f36) = true)
    (a37 : PySem.W.nsIn K mainGlobals "_law_odd" = some (some (.ref f37))) (l37 : K.lookup f37 = some ⟨oc37, od37, .func (PySem.W.fnOf "_law_odd" "_law_odd" (defArgs s__law_odd) (defBody s__law_odd) (defScope s__law_odd) .none kV37 dc37 pm37 an37 cd37 ct37), sl37⟩) (c37 : PySem.W.codeIn K cd37 "_law_odd" = true) (k37 : PySem.W.keepIn K (.ref f37) = true)
    (a38 : PySem.W.nsIn K mainGlobals "_law_bad_way" = some (some (.ref f38))) (l38 : K.lookup f38 = some ⟨oc38, od38, .func (PySem.W.fnOf "_law_bad_way" "_law_bad_way" (defArgs s__law_bad_way) (defBody s__law_bad_way) (defScope s__law_bad_way) .none kV38 dc38 pm38 an38 cd38 ct38), sl38⟩) (c38 : PySem.W.codeIn K cd38 "_law_bad_way" = true) (k38 : PySem.W.keepIn K (.ref f38) = true)
    (a39 : PySem.W.nsIn K mainGlobals "_law_kind" = some (some (.ref f39))) (l39 : K.lookup f39 = some ⟨oc39, od39, .func (PySem.W.fnOf "_law_kind" "_law_kind" (defArgs s__law_kind) (defBody s__law_kind) (defScope s__law_kind) .none kV39 dc39 pm39 an39 cd39 ct39), sl39⟩) (c39 : PySem.W.codeIn K cd39 "_law_kind" = true) (k39 : PySem.W.keepIn K (.ref f39) = true)
    (a40 : PySem.W.nsIn K mainGlobals "_law_whole" = some (some (.ref f40))) (l40 : K.lookup f40 = some ⟨oc40, od40, .func (PySem.W.fnOf "_law_whole" "_law_whole" (defArgs s__law_whole) (defBody s__law_whole) (defScope s__law_whole) .none kV40 dc40 pm40 an40 cd40 ct40), sl40⟩) (c40 : PySem.W.codeIn K cd40 "_law_whole" = true) (k40 : PySem.W.keepIn K (.ref f40) = true)
    (a41 : PySem.W.nsIn K mainGlobals "_law_is_row" = some (some (.ref f41))) (l41 : K.lookup f41 = some ⟨oc41, od41, .func (PySem.W.fnOf "_law_is_row" "_law_is_row" (defArgs s__law_is_row) (defBody s__law_is_row) (defScope s__law_is_row) .none kV41 dc41 pm41 an41 cd41 ct41), sl41⟩) (c41 : PySem.W.codeIn K cd41 "_law_is_row" = true) (k41 : PySem.W.keepIn K (.ref f41) = true)
    (a42 : PySem.W.nsIn K mainGlobals "_law_is_signs" = some (some (.ref f42))) (l42 : K.lookup f42 = some ⟨oc42, od42, .func (PySem.W.fnOf "_law_is_signs" "_law_is_signs" (defArgs s__law_is_signs) (defBody s__law_is_signs) (defScope s__law_is_signs) .none kV42 dc42 pm42 an42 cd42 ct42), sl42⟩) (c42 : PySem.W.codeIn K cd42 "_law_is_signs" = true) (k42 : PySem.W.keepIn K (.ref f42) = true)
    (a43 : PySem.W.nsIn K mainGlobals "_law_signs_in" = some (some (.ref f43))) (l43 : K.lookup f43 = some ⟨oc43, od43, .func (PySem.W.fnOf "_law_signs_in" "_law_signs_in" (defArgs s__law_signs_in) (defBody s__law_signs_in) (defScope s__law_signs_in) .none kV43 dc43 pm43 an43 cd43 ct43), sl43⟩) (c43 : PySem.W.codeIn K cd43 "_law_signs_in" = true) (k43 : PySem.W.keepIn K (.ref f43) = true)
    (a44 : PySem.W.nsIn K mainGlobals "_law_told" = some (some (.ref f44))) (l44 : K.lookup f44 = some ⟨oc44, od44, .func (PySem.W.fnOf "_law_told" "_law_told" (defArgs s__law_told) (defBody s__law_told) (defScope s__law_told) .none kV44 dc44 pm44 an44 cd44 ct44), sl44⟩) (c44 : PySem.W.codeIn K cd44 "_law_told" = true) (k44 : PySem.W.keepIn K (.ref f44) = true)
    (a45 : PySem.W.nsIn K mainGlobals "_law_right" = some (some (.ref f45))) (l45 : K.lookup f45 = some ⟨oc45, od45, .func (PySem.W.fnOf "_law_right" "_law_right" (defArgs s__law_right) (defBody s__law_right) (defScope s__law_right) .none kV45 dc45 pm45 an45 cd45 ct45), sl45⟩) (c45 : PySem.W.codeIn K cd45 "_law_right" = true) (k45 : PySem.W.keepIn K (.ref f45) = true)
    (a46 : PySem.W.nsIn K mainGlobals "law" = some (some (.ref f46))) (l46 : K.lookup f46 = some ⟨oc46, od46, .func (PySem.W.fnOf "law" "law" (defArgs s_law) (defBody s_law) (defScope s_law) .none kV46 dc46 pm46 an46 cd46 ct46), sl46⟩) (c46 : PySem.W.codeIn K cd46 "law" = true) (k46 : PySem.W.keepIn K (.ref f46) = true)
    (z_len : PySem.W.nsIn K mainGlobals "len" = some none)
    (z_isinstance : PySem.W.nsIn K mainGlobals "isinstance" = some none)
    (z_int : PySem.W.nsIn K mainGlobals "int" = some none)
    (z_bool : PySem.W.nsIn K mainGlobals "bool" = some none)
    (z_str : PySem.W.nsIn K mainGlobals "str" = some none)
    (z_tuple : PySem.W.nsIn K mainGlobals "tuple" = some none)
    (z_list : PySem.W.nsIn K mainGlobals "list" = some none)
    (z_sorted : PySem.W.nsIn K mainGlobals "sorted" = some none)
    (z_range : PySem.W.nsIn K mainGlobals "range" = some none)
    (z_repr : PySem.W.nsIn K mainGlobals "repr" = some none)
    (z_enumerate : PySem.W.nsIn K mainGlobals "enumerate" = some none)
    (z_sum : PySem.W.nsIn K mainGlobals "sum" = some none)
    (z_all : PySem.W.nsIn K mainGlobals "all" = some none)
    (z_min : PySem.W.nsIn K mainGlobals "min" = some none)
    (z_max : PySem.W.nsIn K mainGlobals "max" = some none)
    (z_abs : PySem.W.nsIn K mainGlobals "abs" = some none)
    (z_divmod : PySem.W.nsIn K mainGlobals "divmod" = some none)
    (z_dict : PySem.W.nsIn K mainGlobals "dict" = some none)
    (z_set : PySem.W.nsIn K mainGlobals "set" = some none)
    (gM : PySem.W.nsIn K mainGlobals "MOST_NUMBERS" = some (some (.int 9 tM)))
    (gS : PySem.W.nsIn K mainGlobals "SIGNS" = some (some (.ref cS)))
    (lS : K.lookup cS = some ⟨.type "tuple", odS, .seq #[.str "+" tS1, .str "-" tS2, .str "*" tS3] nS, slS⟩)
    (gM3 : PySem.W.nsIn K mainGlobals "MOST_NUMBERS" = some (some (.int 9 tM3)))
    (gP : PySem.W.nsIn K mainGlobals "SIGNS_TO_PUT" = some (some (.ref cP)))
    (lP : K.lookup cP = some ⟨.type "tuple", odP, .seq #[.str "+" tP1, .str "-" tP2, .str "*" tP3, .str "+-" tP4, .str "+*" tP5, .str "-*" tP6, .str "+-*" tP7] nP, slP⟩)
    (n_PutError : PySem.W.nsIn K mainGlobals "PutError" = some (some (.ref aP)))
    (n_NoRow : PySem.W.nsIn K mainGlobals "NoRow" = some (some (.ref aR)))
    (n_NoSigns : PySem.W.nsIn K mainGlobals "NoSigns" = some (some (.ref aS)))
    (n_NoWay : PySem.W.nsIn K mainGlobals "NoWay" = some (some (.ref aW)))
    (n_NoNumber : PySem.W.nsIn K mainGlobals "NoNumber" = some (some (.ref aN)))
    (n_NoPlace : PySem.W.nsIn K mainGlobals "NoPlace" = some (some (.ref aL)))
    (n_NoFit : PySem.W.nsIn K mainGlobals "NoFit" = some (some (.ref aF)))
    (n_NoForm : PySem.W.nsIn K mainGlobals "NoForm" = some (some (.ref aO)))
    (n_NoAsk : PySem.W.nsIn K mainGlobals "NoAsk" = some (some (.ref aA)))
    (n_NoHolds : PySem.W.nsIn K mainGlobals "NoHolds" = some (some (.ref aH)))
    (n_NoText : PySem.W.nsIn K mainGlobals "NoText" = some (some (.ref aT)))
    (n_TooMany : PySem.W.nsIn K mainGlobals "TooMany" = some (some (.ref aM)))
    (z_ValueError : PySem.W.nsIn K mainGlobals "ValueError" = some none)
    (l_PutError : K.lookup aP = some (excClassObj aPnm aPq aP aPN aPbs vMro aPhd aPsn aPsub aPab aPcol aPdd aPk0 aPk1 aPk2 aPk3 aPk5 "ValueError.__new__"))
    (s_PutError : K.lookup aPN = some ⟨aPc, aPod, .dict aPes aPn, aPsl⟩)
    (t_PutError : keysB aPes = true)
    (i_PutError : nsFind aPes "__init__" = none)
    (l_NoRow : K.lookup aR = some (excClassObj aRnm aRq aR aRN aRbs (.ref aP :: vMro) aRhd aRsn aRsub aRab aRcol aRdd aRk0 aRk1 aRk2 aRk3 aRk5 "ValueError.__new__"))
    (s_NoRow : K.lookup aRN = some ⟨aRc, aRod, .dict aRes aRn, aRsl⟩)
    (t_NoRow : keysB aRes = true)
    (i_NoRow : nsFind aRes "__init__" = none)
    (l_NoSigns : K.lookup aS = some (excClassObj aSnm aSq aS aSN aSbs (.ref aP :: vMro) aShd aSsn aSsub aSab aScol aSdd aSk0 aSk1 aSk2 aSk3 aSk5 "ValueError.__new__"))
    (s_NoSigns : K.lookup aSN = some ⟨aSc, aSod, .dict aSes aSn, aSsl⟩)
    (t_NoSigns : keysB aSes = true)
    (i_NoSigns : nsFind aSes "__init__" = none)
    (l_NoWay : K.lookup aW = some (excClassObj aWnm aWq aW aWN aWbs (.ref aP :: vMro) aWhd aWsn aWsub aWab aWcol aWdd aWk0 aWk1 aWk2 aWk3 aWk5 "ValueError.__new__"))
    (s_NoWay : K.lookup aWN = some ⟨aWc, aWod, .dict aWes aWn, aWsl⟩)
    (t_NoWay : keysB aWes = true)
    (i_NoWay : nsFind aWes "__init__" = none)
    (l_NoNumber : K.lookup aN = some (excClassObj aNnm aNq aN aNN aNbs (.ref aP :: vMro) aNhd aNsn aNsub aNab aNcol aNdd aNk0 aNk1 aNk2 aNk3 aNk5 "ValueError.__new__"))
    (s_NoNumber : K.lookup aNN = some ⟨aNc, aNod, .dict aNes aNn, aNsl⟩)
    (t_NoNumber : keysB aNes = true)
    (i_NoNumber : nsFind aNes "__init__" = none)
    (l_NoFit : K.lookup aF = some (excClassObj aFnm aFq aF aFN aFbs (.ref aP :: vMro) aFhd aFsn aFsub aFab aFcol aFdd aFk0 aFk1 aFk2 aFk3 aFk5 "ValueError.__new__"))
    (s_NoFit : K.lookup aFN = some ⟨aFc, aFod, .dict aFes aFn, aFsl⟩)
    (t_NoFit : keysB aFes = true)
    (i_NoFit : nsFind aFes "__init__" = none)
    (f1_NoRow : PySem.W.findIn K (.ref aR) "__getattribute__" = some (some (.builtin "BaseException.__getattribute__")))
    (f2_NoRow : PySem.W.findIn K (.ref aR) "__getattr__" = some none)
    (f3_NoRow : PySem.W.findIn K (.ref aR) "__class__" = some (some (.builtin "object.__class__")))
    (f4_NoRow : PySem.W.subIn K (.ref aR) (.type "BaseException") = some true)
    (f5_NoRow : PySem.W.subIn K (.ref aR) (.type "object") = some true)
    (f6_NoRow : PySem.W.subIn K (.ref aR) (.type "ValueError") = some true)
    (f1_NoSigns : PySem.W.findIn K (.ref aS) "__getattribute__" = some (some (.builtin "BaseException.__getattribute__")))
    (f2_NoSigns : PySem.W.findIn K (.ref aS) "__getattr__" = some none)
    (f3_NoSigns : PySem.W.findIn K (.ref aS) "__class__" = some (some (.builtin "object.__class__")))
    (f4_NoSigns : PySem.W.subIn K (.ref aS) (.type "BaseException") = some true)
    (f5_NoSigns : PySem.W.subIn K (.ref aS) (.type "object") = some true)
    (f6_NoSigns : PySem.W.subIn K (.ref aS) (.type "ValueError") = some true)
    (f1_NoWay : PySem.W.findIn K (.ref aW) "__getattribute__" = some (some (.builtin "BaseException.__getattribute__")))
    (f2_NoWay : PySem.W.findIn K (.ref aW) "__getattr__" = some none)
    (f3_NoWay : PySem.W.findIn K (.ref aW) "__class__" = some (some (.builtin "object.__class__")))
    (f4_NoWay : PySem.W.subIn K (.ref aW) (.type "BaseException") = some true)
    (f5_NoWay : PySem.W.subIn K (.ref aW) (.type "object") = some true)
    (f6_NoWay : PySem.W.subIn K (.ref aW) (.type "ValueError") = some true)
    (f1_NoNumber : PySem.W.findIn K (.ref aN) "__getattribute__" = some (some (.builtin "BaseException.__getattribute__")))
    (f2_NoNumber : PySem.W.findIn K (.ref aN) "__getattr__" = some none)
    (f3_NoNumber : PySem.W.findIn K (.ref aN) "__class__" = some (some (.builtin "object.__class__")))
    (f4_NoNumber : PySem.W.subIn K (.ref aN) (.type "BaseException") = some true)
    (f5_NoNumber : PySem.W.subIn K (.ref aN) (.type "object") = some true)
    (f6_NoNumber : PySem.W.subIn K (.ref aN) (.type "ValueError") = some true)
    (f1_NoFit : PySem.W.findIn K (.ref aF) "__getattribute__" = some (some (.builtin "BaseException.__getattribute__")))
    (f2_NoFit : PySem.W.findIn K (.ref aF) "__getattr__" = some none)
    (f3_NoFit : PySem.W.findIn K (.ref aF) "__class__" = some (some (.builtin "object.__class__")))
    (f4_NoFit : PySem.W.subIn K (.ref aF) (.type "BaseException") = some true)
    (f5_NoFit : PySem.W.subIn K (.ref aF) (.type "object") = some true)
    (f6_NoFit : PySem.W.subIn K (.ref aF) (.type "ValueError") = some true)
    (c_NoRow : PySem.W.clsIn K aR = some aRcd)
    (y_NoRow : PySem.W.typeIn K (.ref aR) = some (.type "type"))
    (c_NoSigns : PySem.W.clsIn K aS = some aScd)
    (y_NoSigns : PySem.W.typeIn K (.ref aS) = some (.type "type"))
    (c_NoWay : PySem.W.clsIn K aW = some aWcd)
    (y_NoWay : PySem.W.typeIn K (.ref aW) = some (.type "type"))
    (c_NoNumber : PySem.W.clsIn K aN = some aNcd)
    (y_NoNumber : PySem.W.typeIn K (.ref aN) = some (.type "type"))
    (c_NoPlace : PySem.W.clsIn K aL = some aLcd)
    (y_NoPlace : PySem.W.typeIn K (.ref aL) = some (.type "type"))
    (c_NoFit : PySem.W.clsIn K aF = some aFcd)
    (y_NoFit : PySem.W.typeIn K (.ref aF) = some (.type "type"))
    (c_NoForm : PySem.W.clsIn K aO = some aOcd)
    (y_NoForm : PySem.W.typeIn K (.ref aO) = some (.type "type"))
    (c_NoAsk : PySem.W.clsIn K aA = some aAcd)
    (y_NoAsk : PySem.W.typeIn K (.ref aA) = some (.type "type"))
    (c_NoHolds : PySem.W.clsIn K aH = some aHcd)
    (y_NoHolds : PySem.W.typeIn K (.ref aH) = some (.type "type"))
    (c_NoText : PySem.W.clsIn K aT = some aTcd)
    (y_NoText : PySem.W.typeIn K (.ref aT) = some (.type "type"))
    (c_TooMany : PySem.W.clsIn K aM = some aMcd)
    (y_TooMany : PySem.W.typeIn K (.ref aM) = some (.type "type"))
    (u_NoRow_NoSigns : PySem.W.subIn K (.ref aR) (.ref aS) = some false)
    (d_NoRow_NoSigns : (Value.ref aR == Value.ref aS) = false)
    (u_NoRow_NoWay : PySem.W.subIn K (.ref aR) (.ref aW) = some false)
    (d_NoRow_NoWay : (Value.ref aR == Value.ref aW) = false)
    (u_NoRow_NoNumber : PySem.W.subIn K (.ref aR) (.ref aN) = some false)
    (d_NoRow_NoNumber : (Value.ref aR == Value.ref aN) = false)
    (u_NoRow_NoPlace : PySem.W.subIn K (.ref aR) (.ref aL) = some false)
    (d_NoRow_NoPlace : (Value.ref aR == Value.ref aL) = false)
    (u_NoRow_NoFit : PySem.W.subIn K (.ref aR) (.ref aF) = some false)
    (d_NoRow_NoFit : (Value.ref aR == Value.ref aF) = false)
    (u_NoRow_NoForm : PySem.W.subIn K (.ref aR) (.ref aO) = some false)
    (d_NoRow_NoForm : (Value.ref aR == Value.ref aO) = false)
    (u_NoRow_NoAsk : PySem.W.subIn K (.ref aR) (.ref aA) = some false)
    (d_NoRow_NoAsk : (Value.ref aR == Value.ref aA) = false)
    (u_NoRow_NoHolds : PySem.W.subIn K (.ref aR) (.ref aH) = some false)
    (d_NoRow_NoHolds : (Value.ref aR == Value.ref aH) = false)
    (u_NoRow_NoText : PySem.W.subIn K (.ref aR) (.ref aT) = some false)
    (d_NoRow_NoText : (Value.ref aR == Value.ref aT) = false)
    (u_NoRow_TooMany : PySem.W.subIn K (.ref aR) (.ref aM) = some false)
    (d_NoRow_TooMany : (Value.ref aR == Value.ref aM) = false)
    (u_NoSigns_NoRow : PySem.W.subIn K (.ref aS) (.ref aR) = some false)
    (d_NoSigns_NoRow : (Value.ref aS == Value.ref aR) = false)
    (u_NoSigns_NoWay : PySem.W.subIn K (.ref aS) (.ref aW) = some false)
    (d_NoSigns_NoWay : (Value.ref aS == Value.ref aW) = false)
    (u_NoSigns_NoNumber : PySem.W.subIn K (.ref aS) (.ref aN) = some false)
    (d_NoSigns_NoNumber : (Value.ref aS == Value.ref aN) = false)
    (u_NoSigns_NoPlace : PySem.W.subIn K (.ref aS) (.ref aL) = some false)
    (d_NoSigns_NoPlace : (Value.ref aS == Value.ref aL) = false)
    (u_NoSigns_NoFit : PySem.W.subIn K (.ref aS) (.ref aF) = some false)
    (d_NoSigns_NoFit : (Value.ref aS == Value.ref aF) = false)
    (u_NoSigns_NoForm : PySem.W.subIn K (.ref aS) (.ref aO) = some false)
    (d_NoSigns_NoForm : (Value.ref aS == Value.ref aO) = false)
    (u_NoSigns_NoAsk : PySem.W.subIn K (.ref aS) (.ref aA) = some false)
    (d_NoSigns_NoAsk : (Value.ref aS == Value.ref aA) = false)
    (u_NoSigns_NoHolds : PySem.W.subIn K (.ref aS) (.ref aH) = some false)
    (d_NoSigns_NoHolds : (Value.ref aS == Value.ref aH) = false)
    (u_NoSigns_NoText : PySem.W.subIn K (.ref aS) (.ref aT) = some false)
    (d_NoSigns_NoText : (Value.ref aS == Value.ref aT) = false)
    (u_NoSigns_TooMany : PySem.W.subIn K (.ref aS) (.ref aM) = some false)
    (d_NoSigns_TooMany : (Value.ref aS == Value.ref aM) = false)
    (u_NoWay_NoRow : PySem.W.subIn K (.ref aW) (.ref aR) = some false)
    (d_NoWay_NoRow : (Value.ref aW == Value.ref aR) = false)
    (u_NoWay_NoSigns : PySem.W.subIn K (.ref aW) (.ref aS) = some false)
    (d_NoWay_NoSigns : (Value.ref aW == Value.ref aS) = false)
    (u_NoWay_NoNumber : PySem.W.subIn K (.ref aW) (.ref aN) = some false)
    (d_NoWay_NoNumber : (Value.ref aW == Value.ref aN) = false)
    (u_NoWay_NoPlace : PySem.W.subIn K (.ref aW) (.ref aL) = some false)
    (d_NoWay_NoPlace : (Value.ref aW == Value.ref aL) = false)
    (u_NoWay_NoFit : PySem.W.subIn K (.ref aW) (.ref aF) = some false)
    (d_NoWay_NoFit : (Value.ref aW == Value.ref aF) = false)
    (u_NoWay_NoForm : PySem.W.subIn K (.ref aW) (.ref aO) = some false)
    (d_NoWay_NoForm : (Value.ref aW == Value.ref aO) = false)
    (u_NoWay_NoAsk : PySem.W.subIn K (.ref aW) (.ref aA) = some false)
    (d_NoWay_NoAsk : (Value.ref aW == Value.ref aA) = false)
    (u_NoWay_NoHolds : PySem.W.subIn K (.ref aW) (.ref aH) = some false)
    (d_NoWay_NoHolds : (Value.ref aW == Value.ref aH) = false)
    (u_NoWay_NoText : PySem.W.subIn K (.ref aW) (.ref aT) = some false)
    (d_NoWay_NoText : (Value.ref aW == Value.ref aT) = false)
    (u_NoWay_TooMany : PySem.W.subIn K (.ref aW) (.ref aM) = some false)
    (d_NoWay_TooMany : (Value.ref aW == Value.ref aM) = false)
    (u_NoNumber_NoRow : PySem.W.subIn K (.ref aN) (.ref aR) = some false)
    (d_NoNumber_NoRow : (Value.ref aN == Value.ref aR) = false)
    (u_NoNumber_NoSigns : PySem.W.subIn K (.ref aN) (.ref aS) = some false)
    (d_NoNumber_NoSigns : (Value.ref aN == Value.ref aS) = false)
    (u_NoNumber_NoWay : PySem.W.subIn K (.ref aN) (.ref aW) = some false)
    (d_NoNumber_NoWay : (Value.ref aN == Value.ref aW) = false)
    (u_NoNumber_NoPlace : PySem.W.subIn K (.ref aN) (.ref aL) = some false)
    (d_NoNumber_NoPlace : (Value.ref aN == Value.ref aL) = false)
    (u_NoNumber_NoFit : PySem.W.subIn K (.ref aN) (.ref aF) = some false)
    (d_NoNumber_NoFit : (Value.ref aN == Value.ref aF) = false)
    (u_NoNumber_NoForm : PySem.W.subIn K (.ref aN) (.ref aO) = some false)
    (d_NoNumber_NoForm : (Value.ref aN == Value.ref aO) = false)
    (u_NoNumber_NoAsk : PySem.W.subIn K (.ref aN) (.ref aA) = some false)
    (d_NoNumber_NoAsk : (Value.ref aN == Value.ref aA) = false)
    (u_NoNumber_NoHolds : PySem.W.subIn K (.ref aN) (.ref aH) = some false)
    (d_NoNumber_NoHolds : (Value.ref aN == Value.ref aH) = false)
    (u_NoNumber_NoText : PySem.W.subIn K (.ref aN) (.ref aT) = some false)
    (d_NoNumber_NoText : (Value.ref aN == Value.ref aT) = false)
    (u_NoNumber_TooMany : PySem.W.subIn K (.ref aN) (.ref aM) = some false)
    (d_NoNumber_TooMany : (Value.ref aN == Value.ref aM) = false)
    (u_NoFit_NoRow : PySem.W.subIn K (.ref aF) (.ref aR) = some false)
    (d_NoFit_NoRow : (Value.ref aF == Value.ref aR) = false)
    (u_NoFit_NoSigns : PySem.W.subIn K (.ref aF) (.ref aS) = some false)
    (d_NoFit_NoSigns : (Value.ref aF == Value.ref aS) = false)
    (u_NoFit_NoWay : PySem.W.subIn K (.ref aF) (.ref aW) = some false)
    (d_NoFit_NoWay : (Value.ref aF == Value.ref aW) = false)
    (u_NoFit_NoNumber : PySem.W.subIn K (.ref aF) (.ref aN) = some false)
    (d_NoFit_NoNumber : (Value.ref aF == Value.ref aN) = false)
    (u_NoFit_NoPlace : PySem.W.subIn K (.ref aF) (.ref aL) = some false)
    (d_NoFit_NoPlace : (Value.ref aF == Value.ref aL) = false)
    (u_NoFit_NoForm : PySem.W.subIn K (.ref aF) (.ref aO) = some false)
    (d_NoFit_NoForm : (Value.ref aF == Value.ref aO) = false)
    (u_NoFit_NoAsk : PySem.W.subIn K (.ref aF) (.ref aA) = some false)
    (d_NoFit_NoAsk : (Value.ref aF == Value.ref aA) = false)
    (u_NoFit_NoHolds : PySem.W.subIn K (.ref aF) (.ref aH) = some false)
    (d_NoFit_NoHolds : (Value.ref aF == Value.ref aH) = false)
    (u_NoFit_NoText : PySem.W.subIn K (.ref aF) (.ref aT) = some false)
    (d_NoFit_NoText : (Value.ref aF == Value.ref aT) = false)
    (u_NoFit_TooMany : PySem.W.subIn K (.ref aF) (.ref aM) = some false)
    (d_NoFit_TooMany : (Value.ref aF == Value.ref aM) = false) :
    ∃ fd : FuncData, (∀ (s : Shared) (v : Value), BindsTo s fd ⟨[v], []⟩ [("script", v)]) ∧ ∀ base : Heap, K.In base → base.Ns mainGlobals mg → FnOk l.prog w K mg base CX0 46 fa fd ["script"] (spLaw K) := by
  have e := hfa.symm.trans (PySem.W.mg_of X G a46)
  cases e
  have F_is_whole := fun_mk (st := s_is_whole) l0 c0 k0
  have b_is_whole := F_is_whole.binds (ps := ["thing"]) fun _ _ _ _ _ _ us hl => match us, hl with | [_], _ => rfl
  have m_is_whole := PySem.W.mg_of X G a0
  have F_is_row := fun_mk (st := s_is_row) l1 c1 k1
  have b_is_row := F_is_row.binds (ps := ["thing"]) fun _ _ _ _ _ _ us hl => match us, hl with | [_], _ => rfl
  have m_is_row := PySem.W.mg_of X G a1
  have F_is_signs := fun_mk (st := s_is_signs) l2 c2 k2
  have b_is_signs := F_is_signs.binds (ps := ["thing"]) fun _ _ _ _ _ _ us hl => match us, hl with | [_], _ => rfl
  have m_is_signs := PySem.W.mg_of X G a2
  have F_is_many := fun_mk (st := s_is_many) l3 c3 k3
  have b_is_many := F_is_many.binds (ps := ["thing"]) fun _ _ _ _ _ _ us hl => match us, hl with | [_], _ => rfl
  have m_is_many := PySem.W.mg_of X G a3
  have F_is_sign := fun_mk (st := s_is_sign) l4 c4 k4
  have b_is_sign := F_is_sign.binds (ps := ["thing"]) fun _ _ _ _ _ _ us hl => match us, hl with | [_], _ => rfl
  have m_is_sign := PySem.W.mg_of X G a4
  have F_is_way := fun_mk (st := s_is_way) l5 c5 k5
  have b_is_way := F_is_way.binds (ps := ["thing"]) fun _ _ _ _ _ _ us hl => match us, hl with | [_], _ => rfl
  have m_is_way := PySem.W.mg_of X G a5
  have F_need_row := fun_mk (st := s_need_row) l6 c6 k6
  have b_need_row := F_need_row.binds (ps := ["thing"]) fun _ _ _ _ _ _ us hl => match us, hl with | [_], _ => rfl
  have m_need_row := PySem.W.mg_of X G a6
  have F_need_signs := fun_mk (st := s_need_signs) l7 c7 k7
  have b_need_signs := F_need_signs.binds (ps := ["thing"]) fun _ _ _ _ _ _ us hl => match us, hl with | [_], _ => rfl
  have m_need_signs := PySem.W.mg_of X G a7
  have F_need_way := fun_mk (st := s_need_way) l8 c8 k8
  have b_need_way := F_need_way.binds (ps := ["thing"]) fun _ _ _ _ _ _ us hl => match us, hl with | [_], _ => rfl
  have m_need_way := PySem.W.mg_of X G a8
  have F_need_many := fun_mk (st := s_need_many) l9 c9 k9
  have b_need_many := F_need_many.binds (ps := ["thing"]) fun _ _ _ _ _ _ us hl => match us, hl with | [_], _ => rfl
  have m_need_many := PySem.W.mg_of X G a9
  have F_numbers_of := fun_mk (st := s_numbers_of) l10 c10 k10
  have b_numbers_of := F_numbers_of.binds (ps := ["way"]) fun _ _ _ _ _ _ us hl => match us, hl with | [_], _ => rfl
  have m_numbers_of := PySem.W.mg_of X G a10
  have F_list_numbers := fun_mk (st := s_list_numbers) l11 c11 k11
  have b_list_numbers := F_list_numbers.binds (ps := ["way"]) fun _ _ _ _ _ _ us hl => match us, hl with | [_], _ => rfl
  have m_list_numbers := PySem.W.mg_of X G a11
  have F_signs_of := fun_mk (st := s_signs_of) l12 c12 k12
  have b_signs_of := F_signs_of.binds (ps := ["way"]) fun _ _ _ _ _ _ us hl => match us, hl with | [_], _ => rfl
  have m_signs_of := PySem.W.mg_of X G a12
  have F_join_signs := fun_mk (st := s_join_signs) l13 c13 k13
  have b_join_signs := F_join_signs.binds (ps := ["way"]) fun _ _ _ _ _ _ us hl => match us, hl with | [_], _ => rfl
  have m_join_signs := PySem.W.mg_of X G a13
  have F_stretches_of := fun_mk (st := s_stretches_of) l14 c14 k14
  have b_stretches_of := F_stretches_of.binds (ps := ["way"]) fun _ _ _ _ _ _ us hl => match us, hl with | [_], _ => rfl
  have m_stretches_of := PySem.W.mg_of X G a14
  have F_list_stretches := fun_mk (st := s_list_stretches) l15 c15 k15
  have b_list_stretches := F_list_stretches.binds (ps := ["way", "first"]) fun _ _ _ _ _ _ us hl => match us, hl with | [_, _], _ => rfl
  have m_list_stretches := PySem.W.mg_of X G a15
  have F_brackets_in := fun_mk (st := s_brackets_in) l16 c16 k16
  have b_brackets_in := F_brackets_in.binds (ps := ["way"]) fun _ _ _ _ _ _ us hl => match us, hl with | [_], _ => rfl
  have m_brackets_in := PySem.W.mg_of X G a16
  have F_count_brackets := fun_mk (st := s_count_brackets) l17 c17 k17
  have b_count_brackets := F_count_brackets.binds (ps := ["way"]) fun _ _ _ _ _ _ us hl => match us, hl with | [_], _ => rfl
  have m_count_brackets := PySem.W.mg_of X G a17
  have F_own_sign := fun_mk (st := s_own_sign) l18 c18 k18
  have b_own_sign := F_own_sign.binds (ps := ["way"]) fun _ _ _ _ _ _ us hl => match us, hl with | [_], _ => rfl
  have m_own_sign := PySem.W.mg_of X G a18
  have F_brackets_around := fun_mk (st := s_brackets_around) l19 c19 k19
  have b_brackets_around := F_brackets_around.binds (ps := ["sign", "left_sign", "right_sign"]) fun _ _ _ _ _ _ us hl => match us, hl with | [_, _, _], _ => rfl
  have m_brackets_around := PySem.W.mg_of X G a19
  have F_left_in_brackets := fun_mk (st := s_left_in_brackets) l20 c20 k20
  have b_left_in_brackets := F_left_in_brackets.binds (ps := ["sign", "left_sign"]) fun _ _ _ _ _ _ us hl => match us, hl with | [_, _], _ => rfl
  have m_left_in_brackets := PySem.W.mg_of X G a20
  have F_right_in_brackets := fun_mk (st := s_right_in_brackets) l21 c21 k21
  have b_right_in_brackets := F_right_in_brackets.binds (ps := ["sign", "right_sign"]) fun _ _ _ _ _ _ us hl => match us, hl with | [_, _], _ => rfl
  have m_right_in_brackets := PySem.W.mg_of X G a21
  have F_how_many_ways := fun_mk (st := s_how_many_ways) l22 c22 k22
  have b_how_many_ways := F_how_many_ways.binds (ps := ["signs", "many"]) fun _ _ _ _ _ _ us hl => match us, hl with | [_, _], _ => rfl
  have m_how_many_ways := PySem.W.mg_of X G a22
  have F_nth_way := fun_mk (st := s_nth_way) l23 c23 k23
  have b_nth_way := F_nth_way.binds (ps := ["row", "signs", "number"]) fun _ _ _ _ _ _ us hl => match us, hl with | [_, _, _], _ => rfl
  have m_nth_way := PySem.W.mg_of X G a23
  have F_number_of_way := fun_mk (st := s_number_of_way) l24 c24 k24
  have b_number_of_way := F_number_of_way.binds (ps := ["way", "signs"]) fun _ _ _ _ _ _ us hl => match us, hl with | [_, _], _ => rfl
  have m_number_of_way := PySem.W.mg_of X G a24
  have F_has_signs_among := fun_mk (st := s_has_signs_among) l25 c25 k25
  have b_has_signs_among := F_has_signs_among.binds (ps := ["way", "signs"]) fun _ _ _ _ _ _ us hl => match us, hl with | [_, _], _ => rfl
  have m_has_signs_among := PySem.W.mg_of X G a25
  have F_counts_up_to := fun_mk (st := s_counts_up_to) l26 c26 k26
  have b_counts_up_to := F_counts_up_to.binds (ps := ["signs", "many"]) fun _ _ _ _ _ _ us hl => match us, hl with | [_, _], _ => rfl
  have m_counts_up_to := PySem.W.mg_of X G a26
  have F_ways_by_cut := fun_mk (st := s_ways_by_cut) l27 c27 k27
  have b_ways_by_cut := F_ways_by_cut.binds (ps := ["signs", "counts", "left", "right"]) fun _ _ _ _ _ _ us hl => match us, hl with | [_, _, _, _], _ => rfl
  have m_ways_by_cut := PySem.W.mg_of X G a27
  have F_way_at := fun_mk (st := s_way_at) l28 c28 k28
  have b_way_at := F_way_at.binds (ps := ["row", "signs", "counts", "number"]) fun _ _ _ _ _ _ us hl => match us, hl with | [_, _, _, _], _ => rfl
  have m_way_at := PySem.W.mg_of X G a28
  have F_number_at := fun_mk (st := s_number_at) l29 c29 k29
  have b_number_at := F_number_at.binds (ps := ["way", "signs", "counts"]) fun _ _ _ _ _ _ us hl => match us, hl with | [_, _, _], _ => rfl
  have m_number_at := PySem.W.mg_of X G a29
  have F__law_mixed := fun_mk (st := s__law_mixed) l30 c30 k30
  have b__law_mixed := F__law_mixed.binds (ps := ["cell", "k"]) fun _ _ _ _ _ _ us hl => match us, hl with | [_, _], _ => rfl
  have m__law_mixed := PySem.W.mg_of X G a30
  have F__law_well := fun_mk (st := s__law_well) l31 c31 k31
  have b__law_well := F__law_well.binds (ps := ["cell"]) fun _ _ _ _ _ _ us hl => match us, hl with | [_], _ => rfl
  have m__law_well := PySem.W.mg_of X G a31
  have F__law_draw := fun_mk (st := s__law_draw) l32 c32 k32
  have b__law_draw := F__law_draw.binds (ps := ["well", "many"]) fun _ _ _ _ _ _ us hl => match us, hl with | [_, _], _ => rfl
  have m__law_draw := PySem.W.mg_of X G a32
  have F__law_number := fun_mk (st := s__law_number) l33 c33 k33
  have b__law_number := F__law_number.binds (ps := ["well"]) fun _ _ _ _ _ _ us hl => match us, hl with | [_], _ => rfl
  have m__law_number := PySem.W.mg_of X G a33
  have F__law_row := fun_mk (st := s__law_row) l34 c34 k34
  have b__law_row := F__law_row.binds (ps := ["well", "many"]) fun _ _ _ _ _ _ us hl => match us, hl with | [_, _], _ => rfl
  have m__law_row := PySem.W.mg_of X G a34
  have F__law_signs := fun_mk (st := s__law_signs) l35 c35 k35
  have b__law_signs := F__law_signs.binds (ps := ["well"]) fun _ _ _ _ _ _ us hl => match us, hl with | [_], _ => rfl
  have m__law_signs := PySem.W.mg_of X G a35
  have F__law_way := fun_mk (st := s__law_way) l36 c36 k36
  have b__law_way := F__law_way.binds (ps := ["well", "row", "signs"]) fun _ _ _ _ _ _ us hl => match us, hl with | [_, _, _], _ => rfl
  have m__law_way := PySem.W.mg_of X G a36
  have F__law_odd := fun_mk (st := s__law_odd) l37 c37 k37
  have b__law_odd := F__law_odd.binds (ps := ["well"]) fun _ _ _ _ _ _ us hl => match us, hl with | [_], _ => rfl
  have m__law_odd := PySem.W.mg_of X G a37
  have F__law_bad_way := fun_mk (st := s__law_bad_way) l38 c38 k38
  have b__law_bad_way := F__law_bad_way.binds (ps := ["well", "way"]) fun _ _ _ _ _ _ us hl => match us, hl with | [_, _], _ => rfl
  have m__law_bad_way := PySem.W.mg_of X G a38
  have F__law_kind := fun_mk (st := s__law_kind) l39 c39 k39
  have b__law_kind := F__law_kind.binds (ps := ["caught"]) fun _ _ _ _ _ _ us hl => match us, hl with | [_], _ => rfl
  have m__law_kind := PySem.W.mg_of X G a39
  have F__law_whole := fun_mk (st := s__law_whole) l40 c40 k40
  have b__law_whole := F__law_whole.binds (ps := ["thing", "low", "high"]) fun _ _ _ _ _ _ us hl => match us, hl with | [_, _, _], _ => rfl
  have m__law_whole := PySem.W.mg_of X G a40
  have F__law_is_row := fun_mk (st := s__law_is_row) l41 c41 k41
  have b__law_is_row := F__law_is_row.binds (ps := ["thing"]) fun _ _ _ _ _ _ us hl => match us, hl with | [_], _ => rfl
  have m__law_is_row := PySem.W.mg_of X G a41
  have F__law_is_signs := fun_mk (st := s__law_is_signs) l42 c42 k42
  have b__law_is_signs := F__law_is_signs.binds (ps := ["thing"]) fun _ _ _ _ _ _ us hl => match us, hl with | [_], _ => rfl
  have m__law_is_signs := PySem.W.mg_of X G a42
  have F__law_signs_in := fun_mk (st := s__law_signs_in) l43 c43 k43
  have b__law_signs_in := F__law_signs_in.binds (ps := ["thing"]) fun _ _ _ _ _ _ us hl => match us, hl with | [_], _ => rfl
  have m__law_signs_in := PySem.W.mg_of X G a43
  have F__law_told := fun_mk (st := s__law_told) l44 c44 k44
  have b__law_told := F__law_told.binds (ps := ["way", "one", "other", "third"]) fun _ _ _ _ _ _ us hl => match us, hl with | [_, _, _, _], _ => rfl
  have m__law_told := PySem.W.mg_of X G a44
  have F__law_right := fun_mk (st := s__law_right) l45 c45 k45
  have b__law_right := F__law_right.binds (ps := ["row", "signs", "way", "many", "number"]) fun _ _ _ _ _ _ us hl => match us, hl with | [_, _, _, _, _], _ => rfl
  have m__law_right := PySem.W.mg_of X G a45
  have F_law := fun_mk (st := s_law) l46 c46 k46
  have B : Bu K mg := ⟨PySem.W.mg_none_of X G z_len, PySem.W.mg_none_of X G z_isinstance, PySem.W.mg_none_of X G z_int, PySem.W.mg_none_of X G z_bool, PySem.W.mg_none_of X G z_str, PySem.W.mg_none_of X G z_tuple, PySem.W.mg_none_of X G z_list, PySem.W.mg_none_of X G z_sorted, PySem.W.mg_none_of X G z_range, PySem.W.mg_none_of X G z_repr, PySem.W.mg_none_of X G z_enumerate, PySem.W.mg_none_of X G z_sum, PySem.W.mg_none_of X G z_all, PySem.W.mg_none_of X G z_min, PySem.W.mg_none_of X G z_max, PySem.W.mg_none_of X G z_abs, PySem.W.mg_none_of X G z_divmod, PySem.W.mg_none_of X G z_dict, PySem.W.mg_none_of X G z_set⟩
  have B' : Co K mg tM cS := ⟨PySem.W.mg_of X G gM, PySem.W.mg_of X G gS, fun H => .inr ⟨_, _, _, lS, rfl, rfl, by show 3 ≤ sizeLine; decide, .cons ⟨_, rfl⟩ (.cons ⟨_, rfl⟩ (.cons ⟨_, rfl⟩ .nil))⟩⟩
  have B3 : Cp K mg tM3 cP := ⟨PySem.W.mg_of X G gM3, PySem.W.mg_of X G gP, fun H => .inr ⟨_, _, _, lP, rfl, rfl, by show 7 ≤ sizeLine; decide, .cons ⟨_, rfl⟩ (.cons ⟨_, rfl⟩ (.cons ⟨_, rfl⟩ (.cons ⟨_, rfl⟩ (.cons ⟨_, rfl⟩ (.cons ⟨_, rfl⟩ (.cons ⟨_, rfl⟩ .nil))))))⟩⟩
  have XC : Xc K mg aP aR aS aW aN aF := ⟨PySem.W.mg_of X G n_PutError, PySem.W.mg_of X G n_NoRow, PySem.W.mg_of X G n_NoSigns, PySem.W.mg_of X G n_NoWay, PySem.W.mg_of X G n_NoNumber, PySem.W.mg_of X G n_NoFit, ec_sub l_NoRow s_NoRow t_NoRow i_NoRow l_PutError s_PutError t_PutError i_PutError, ec_sub l_NoSigns s_NoSigns t_NoSigns i_NoSigns l_PutError s_PutError t_PutError i_PutError, ec_sub l_NoWay s_NoWay t_NoWay i_NoWay l_PutError s_PutError t_PutError i_PutError, ec_sub l_NoNumber s_NoNumber t_NoNumber i_NoNumber l_PutError s_PutError t_PutError i_PutError, ec_sub l_NoFit s_NoFit t_NoFit i_NoFit l_PutError s_PutError t_PutError i_PutError, und_sub l_NoRow l_PutError, und_sub l_NoSigns l_PutError, und_sub l_NoWay l_PutError, und_sub l_NoNumber l_PutError, und_sub l_NoFit l_PutError⟩
  have XK : Xk mg aR aS aW aN aL aF aO aA aH aT aM := ⟨PySem.W.mg_of X G n_NoRow, PySem.W.mg_of X G n_NoSigns, PySem.W.mg_of X G n_NoWay, PySem.W.mg_of X G n_NoNumber, PySem.W.mg_of X G n_NoPlace, PySem.W.mg_of X G n_NoFit, PySem.W.mg_of X G n_NoForm, PySem.W.mg_of X G n_NoAsk, PySem.W.mg_of X G n_NoHolds, PySem.W.mg_of X G n_NoText, PySem.W.mg_of X G n_TooMany, PySem.W.mg_none_of X G z_ValueError⟩
  have D0 : Kd K aR aS aW aN aL aF aO aA aH aT aM aR 0 := ⟨exc_of l_NoRow f1_NoRow f2_NoRow f3_NoRow f4_NoRow f5_NoRow, by decide, kit_self, (kit_ref d_NoRow_NoSigns c_NoSigns y_NoSigns u_NoRow_NoSigns), (kit_ref d_NoRow_NoWay c_NoWay y_NoWay u_NoRow_NoWay), (kit_ref d_NoRow_NoNumber c_NoNumber y_NoNumber u_NoRow_NoNumber), (kit_ref d_NoRow_NoPlace c_NoPlace y_NoPlace u_NoRow_NoPlace), (kit_ref d_NoRow_NoFit c_NoFit y_NoFit u_NoRow_NoFit), (kit_ref d_NoRow_NoForm c_NoForm y_NoForm u_NoRow_NoForm), kit_any4 (kit_ref d_NoRow_NoAsk c_NoAsk y_NoAsk u_NoRow_NoAsk) (kit_ref d_NoRow_NoHolds c_NoHolds y_NoHolds u_NoRow_NoHolds) (kit_ref d_NoRow_NoText c_NoText y_NoText u_NoRow_NoText) (kit_ref d_NoRow_TooMany c_TooMany y_TooMany u_NoRow_TooMany), kit_val f6_NoRow⟩
  have D1 : Kd K aR aS aW aN aL aF aO aA aH aT aM aS 1 := ⟨exc_of l_NoSigns f1_NoSigns f2_NoSigns f3_NoSigns f4_NoSigns f5_NoSigns, by decide, (kit_ref d_NoSigns_NoRow c_NoRow y_NoRow u_NoSigns_NoRow), kit_self, (kit_ref d_NoSigns_NoWay c_NoWay y_NoWay u_NoSigns_NoWay), (kit_ref d_NoSigns_NoNumber c_NoNumber y_NoNumber u_NoSigns_NoNumber), (kit_ref d_NoSigns_NoPlace c_NoPlace y_NoPlace u_NoSigns_NoPlace), (kit_ref d_NoSigns_NoFit c_NoFit y_NoFit u_NoSigns_NoFit), (kit_ref d_NoSigns_NoForm c_NoForm y_NoForm u_NoSigns_NoForm), kit_any4 (kit_ref d_NoSigns_NoAsk c_NoAsk y_NoAsk u_NoSigns_NoAsk) (kit_ref d_NoSigns_NoHolds c_NoHolds y_NoHolds u_NoSigns_NoHolds) (kit_ref d_NoSigns_NoText c_NoText y_NoText u_NoSigns_NoText) (kit_ref d_NoSigns_TooMany c_TooMany y_TooMany u_NoSigns_TooMany), kit_val f6_NoSigns⟩
  have D2 : Kd K aR aS aW aN aL aF aO aA aH aT aM aW 2 := ⟨exc_of l_NoWay f1_NoWay f2_NoWay f3_NoWay f4_NoWay f5_NoWay, by decide, (kit_ref d_NoWay_NoRow c_NoRow y_NoRow u_NoWay_NoRow), (kit_ref d_NoWay_NoSigns c_NoSigns y_NoSigns u_NoWay_NoSigns), kit_self, (kit_ref d_NoWay_NoNumber c_NoNumber y_NoNumber u_NoWay_NoNumber), (kit_ref d_NoWay_NoPlace c_NoPlace y_NoPlace u_NoWay_NoPlace), (kit_ref d_NoWay_NoFit c_NoFit y_NoFit u_NoWay_NoFit), (kit_ref d_NoWay_NoForm c_NoForm y_NoForm u_NoWay_NoForm), kit_any4 (kit_ref d_NoWay_NoAsk c_NoAsk y_NoAsk u_NoWay_NoAsk) (kit_ref d_NoWay_NoHolds c_NoHolds y_NoHolds u_NoWay_NoHolds) (kit_ref d_NoWay_NoText c_NoText y_NoText u_NoWay_NoText) (kit_ref d_NoWay_TooMany c_TooMany y_TooMany u_NoWay_TooMany), kit_val f6_NoWay⟩
  have D3 : Kd K aR aS aW aN aL aF aO aA aH aT aM aN 3 := ⟨exc_of l_NoNumber f1_NoNumber f2_NoNumber f3_NoNumber f4_NoNumber f5_NoNumber, by decide, (kit_ref d_NoNumber_NoRow c_NoRow y_NoRow u_NoNumber_NoRow), (kit_ref d_NoNumber_NoSigns c_NoSigns y_NoSigns u_NoNumber_NoSigns), (kit_ref d_NoNumber_NoWay c_NoWay y_NoWay u_NoNumber_NoWay), kit_self, (kit_ref d_NoNumber_NoPlace c_NoPlace y_NoPlace u_NoNumber_NoPlace), (kit_ref d_NoNumber_NoFit c_NoFit y_NoFit u_NoNumber_NoFit), (kit_ref d_NoNumber_NoForm c_NoForm y_NoForm u_NoNumber_NoForm), kit_any4 (kit_ref d_NoNumber_NoAsk c_NoAsk y_NoAsk u_NoNumber_NoAsk) (kit_ref d_NoNumber_NoHolds c_NoHolds y_NoHolds u_NoNumber_NoHolds) (kit_ref d_NoNumber_NoText c_NoText y_NoText u_NoNumber_NoText) (kit_ref d_NoNumber_TooMany c_TooMany y_TooMany u_NoNumber_TooMany), kit_val f6_NoNumber⟩
  have D5 : Kd K aR aS aW aN aL aF aO aA aH aT aM aF 5 := ⟨exc_of l_NoFit f1_NoFit f2_NoFit f3_NoFit f4_NoFit f5_NoFit, by decide, (kit_ref d_NoFit_NoRow c_NoRow y_NoRow u_NoFit_NoRow), (kit_ref d_NoFit_NoSigns c_NoSigns y_NoSigns u_NoFit_NoSigns), (kit_ref d_NoFit_NoWay c_NoWay y_NoWay u_NoFit_NoWay), (kit_ref d_NoFit_NoNumber c_NoNumber y_NoNumber u_NoFit_NoNumber), (kit_ref d_NoFit_NoPlace c_NoPlace y_NoPlace u_NoFit_NoPlace), kit_self, (kit_ref d_NoFit_NoForm c_NoForm y_NoForm u_NoFit_NoForm), kit_any4 (kit_ref d_NoFit_NoAsk c_NoAsk y_NoAsk u_NoFit_NoAsk) (kit_ref d_NoFit_NoHolds c_NoHolds y_NoHolds u_NoFit_NoHolds) (kit_ref d_NoFit_NoText c_NoText y_NoText u_NoFit_NoText) (kit_ref d_NoFit_TooMany c_TooMany y_TooMany u_NoFit_TooMany), kit_val f6_NoFit⟩
  refine ⟨PySem.W.fnOf "law" "law" (defArgs s_law) (defBody s_law) (defScope s_law) .none kV46 dc46 pm46 an46 cd46 ct46, fun s v => .of_eq rfl, fun base _ _ => ?_⟩
  have C_is_whole : Cal l.prog w K mg base "is_whole" 1 ["thing"] (spWhole K) := ⟨_, _, ok_is_whole F_is_whole B, b_is_whole, F_is_whole.kp, m_is_whole⟩
  have C_is_sign_spSign_1 : Cal l.prog w K mg base "is_sign" 1 ["thing"] spSign := ⟨_, _, ok_is_sign F_is_sign B B', b_is_sign, F_is_sign.kp, m_is_sign⟩
  have C_list_numbers : Cal l.prog w K mg base "list_numbers" 21 ["way"] (spNums 20) := ⟨_, _, ok_list_numbers F_list_numbers b_list_numbers m_list_numbers C_is_whole 20, b_list_numbers, F_list_numbers.kp, m_list_numbers⟩
  have C_join_signs : Cal l.prog w K mg base "join_signs" 21 ["way"] (spSgs 20) := ⟨_, _, ok_join_signs F_join_signs b_join_signs m_join_signs C_is_whole 20, b_join_signs, F_join_signs.kp, m_join_signs⟩
  have C__law_mixed : Cal l.prog w K mg base "_law_mixed" 1 ["cell", "k"] spMixed := ⟨_, _, ok_mixed F__law_mixed, b__law_mixed, F__law_mixed.kp, m__law_mixed⟩
  have C__law_well : Cal l.prog w K mg base "_law_well" 1 ["cell"] spWell := ⟨_, _, ok_well F__law_well B, b__law_well, F__law_well.kp, m__law_well⟩
  have C__law_draw : Cal l.prog w K mg base "_law_draw" 2 ["well", "many"] spDraw := ⟨_, _, ok_draw F__law_draw C__law_mixed, b__law_draw, F__law_draw.kp, m__law_draw⟩
  have C__law_number : Cal l.prog w K mg base "_law_number" 3 ["well"] spNumber := ⟨_, _, ok_number F__law_number C__law_draw, b__law_number, F__law_number.kp, m__law_number⟩
  have C__law_row : Cal l.prog w K mg base "_law_row" 4 ["well", "many"] spRow := ⟨_, _, ok_row F__law_row B C__law_draw C__law_number, b__law_row, F__law_row.kp, m__law_row⟩
  have C__law_way : Cal l.prog w K mg base "_law_way" 22 ["well", "row", "signs"] (spWay 20) := ⟨_, _, ok_way F__law_way b__law_way m__law_way B C__law_draw 20, b__law_way, F__law_way.kp, m__law_way⟩
  have C_is_sign_spSignD_1 : Cal l.prog w K mg base "is_sign" 1 ["thing"] spSignD := ⟨_, _, ok_is_signD F_is_sign B B', b_is_sign, F_is_sign.kp, m_is_sign⟩
  have C_is_way : Cal l.prog w K mg base "is_way" 2 ["thing"] spIsWayD := ⟨_, _, ok_is_wayD F_is_way B B' C_is_whole C_is_sign_spSignD_1, b_is_way, F_is_way.kp, m_is_way⟩
  have C__law_odd : Cal l.prog w K mg base "_law_odd" 3 ["well"] spOdd := ⟨_, _, ok_odd F__law_odd C__law_draw, b__law_odd, F__law_odd.kp, m__law_odd⟩
  have C__law_bad_way : Cal l.prog w K mg base "_law_bad_way" 13 ["well", "way"] (spBad 10) := ⟨_, _, ok_bad F__law_bad_way b__law_bad_way m__law_bad_way B C__law_draw C__law_odd 10, b__law_bad_way, F__law_bad_way.kp, m__law_bad_way⟩
  have C_is_row : Cal l.prog w K mg base "is_row" 2 ["thing"] spIsRow := ⟨_, _, ok_is_row F_is_row B B3 C_is_whole, b_is_row, F_is_row.kp, m_is_row⟩
  have C_is_signs : Cal l.prog w K mg base "is_signs" 1 ["thing"] spIsSigns := ⟨_, _, ok_is_signs F_is_signs B B3, b_is_signs, F_is_signs.kp, m_is_signs⟩
  have C_list_stretches : Cal l.prog w K mg base "list_stretches" 42 ["way", "first"] (spStr 20) := ⟨_, _, ok_list_stretches F_list_stretches b_list_stretches m_list_stretches B C_is_whole C_list_numbers 20, b_list_stretches, F_list_stretches.kp, m_list_stretches⟩
  have C_left_in_brackets : Cal l.prog w K mg base "left_in_brackets" 1 ["sign", "left_sign"] spLeft := ⟨_, _, ok_left F_left_in_brackets, b_left_in_brackets, F_left_in_brackets.kp, m_left_in_brackets⟩
  have C_right_in_brackets : Cal l.prog w K mg base "right_in_brackets" 1 ["sign", "right_sign"] spRightB := ⟨_, _, ok_rightB F_right_in_brackets, b_right_in_brackets, F_right_in_brackets.kp, m_right_in_brackets⟩
  have C_brackets_around : Cal l.prog w K mg base "brackets_around" 2 ["sign", "left_sign", "right_sign"] spAround := ⟨_, _, ok_around F_brackets_around C_left_in_brackets C_right_in_brackets, b_brackets_around, F_brackets_around.kp, m_brackets_around⟩
  have C_own_sign : Cal l.prog w K mg base "own_sign" 2 ["way"] spOwn := ⟨_, _, ok_own F_own_sign C_is_whole, b_own_sign, F_own_sign.kp, m_own_sign⟩
  have C_count_brackets : Cal l.prog w K mg base "count_brackets" 23 ["way"] (spCount 20) := ⟨_, _, ok_count F_count_brackets b_count_brackets m_count_brackets C_is_whole C_own_sign C_brackets_around 20, b_count_brackets, F_count_brackets.kp, m_count_brackets⟩
  have C_is_many : Cal l.prog w K mg base "is_many" 2 ["thing"] spIsMany := ⟨_, _, ok_is_many F_is_many B3 C_is_whole, b_is_many, F_is_many.kp, m_is_many⟩
  have C_need_row : Cal1 l.prog w K mg base "need_row" 3 ["thing"] (spNeedRow1 aR) := ⟨_, _, ok_need_row1 F_need_row XC C_is_row, b_need_row, F_need_row.kp, m_need_row⟩
  have C_need_signs : Cal1 l.prog w K mg base "need_signs" 2 ["thing"] (spNeedSigns1 aS) := ⟨_, _, ok_need_signs1 F_need_signs XC C_is_signs, b_need_signs, F_need_signs.kp, m_need_signs⟩
  have C_need_many : Cal1 l.prog w K mg base "need_many" 3 ["thing"] (spNeedMany1 aN) := ⟨_, _, ok_need_many1 F_need_many XC C_is_many, b_need_many, F_need_many.kp, m_need_many⟩
  have C_need_way : Cal1 l.prog w K mg base "need_way" 3 ["thing"] (spNeedWay1 aW) := ⟨_, _, ok_need_way1 F_need_way XC C_is_way, b_need_way, F_need_way.kp, m_need_way⟩
  have V_numbers_of : CalF l.prog w K mg base f10 22 ["way"] (spWayAny aW) := ⟨_, ok_numbers_of1 F_numbers_of C_need_way C_list_numbers, b_numbers_of, F_numbers_of.kp⟩
  have V_signs_of : CalF l.prog w K mg base f12 22 ["way"] (spWayAny aW) := ⟨_, ok_signs_of1 F_signs_of C_need_way C_join_signs, b_signs_of, F_signs_of.kp⟩
  have V_brackets_in : CalF l.prog w K mg base f16 24 ["way"] (spWayAny aW) := ⟨_, ok_brackets_in1 F_brackets_in C_need_way C_count_brackets, b_brackets_in, F_brackets_in.kp⟩
  have V_stretches_of : CalF l.prog w K mg base f14 43 ["way"] (spWayAny aW) := ⟨_, ok_stretches_of1 F_stretches_of B C_need_way C_list_stretches, b_stretches_of, F_stretches_of.kp⟩
  have C_ways_by_cut : Cal l.prog w K mg base "ways_by_cut" 1 ["signs", "counts", "left", "right"] spWbc := ⟨_, _, ok_ways_by_cut F_ways_by_cut B, b_ways_by_cut, F_ways_by_cut.kp, m_ways_by_cut⟩
  have C_counts_up_to : Cal l.prog w K mg base "counts_up_to" 2 ["signs", "many"] spCts := ⟨_, _, ok_counts_up_to F_counts_up_to B C_ways_by_cut, b_counts_up_to, F_counts_up_to.kp, m_counts_up_to⟩
  have V_how_many_ways : CalF l.prog w K mg base f22 4 ["signs", "many"] (spHow1 aS aN) := ⟨_, ok_how_many_ways1 F_how_many_ways C_need_signs C_need_many C_counts_up_to, b_how_many_ways, F_how_many_ways.kp⟩
  have C_way_at : Cal l.prog w K mg base "way_at" 11 ["row", "signs", "counts", "number"] (spWat 9) := ⟨_, _, ok_way_at F_way_at b_way_at m_way_at B C_ways_by_cut 9, b_way_at, F_way_at.kp, m_way_at⟩
  have C_nth_way : Cal1 l.prog w K mg base "nth_way" 12 ["row", "signs", "number"] (spNth1 aR aS aN) := ⟨_, _, ok_nth_way1 F_nth_way B XC C_need_row C_need_signs C_counts_up_to C_is_whole C_way_at, b_nth_way, F_nth_way.kp, m_nth_way⟩
  have C_has_signs_among : Cal l.prog w K mg base "has_signs_among" 22 ["way", "signs"] spHas := ⟨_, _, ok_has_signs F_has_signs_among B C_join_signs, b_has_signs_among, F_has_signs_among.kp, m_has_signs_among⟩
  have C_number_at : Cal l.prog w K mg base "number_at" 31 ["way", "signs", "counts"] (spNat 9) := ⟨_, _, ok_number_at F_number_at b_number_at m_number_at B C_is_whole C_list_numbers C_ways_by_cut 9, b_number_at, F_number_at.kp, m_number_at⟩
  have V_number_of_way : CalF l.prog w K mg base f24 32 ["way", "signs"] (spNow1 aW aS aF) := ⟨_, ok_number_of_way1 F_number_of_way B XC C_need_way C_need_signs C_has_signs_among C_list_numbers C_counts_up_to C_number_at, b_number_of_way, F_number_of_way.kp⟩
  have C__law_kind : Cal l.prog w K mg base "_law_kind" 1 ["caught"] (spKind K aR aS aW aN aL aF aO aA aH aT aM) := ⟨_, _, ok_kind F__law_kind B XK, b__law_kind, F__law_kind.kp, m__law_kind⟩
  have C__law_whole : Cal l.prog w K mg base "_law_whole" 1 ["thing", "low", "high"] spLWhole3 := ⟨_, _, ok_law_whole F__law_whole B, b__law_whole, F__law_whole.kp, m__law_whole⟩
  have C__law_is_signs : Cal l.prog w K mg base "_law_is_signs" 1 ["thing"] spLIsSigns := ⟨_, _, ok_law_is_signs F__law_is_signs B, b__law_is_signs, F__law_is_signs.kp, m__law_is_signs⟩
  have C__law_is_row : Cal l.prog w K mg base "_law_is_row" 1 ["thing"] spIsRow := ⟨_, _, ok_law_is_row F__law_is_row B, b__law_is_row, F__law_is_row.kp, m__law_is_row⟩
  have C__law_signs_in : Cal l.prog w K mg base "_law_signs_in" 1 ["thing"] spSgIn := ⟨_, _, ok_signs_in F__law_signs_in B, b__law_signs_in, F__law_signs_in.kp, m__law_signs_in⟩
  have C__law_told : Cal l.prog w K mg base "_law_told" 44 ["way", "one", "other", "third"] spTold := ⟨_, _, ok_told F__law_told B XC D0 D1 D2 D3 D5 m_numbers_of m_signs_of m_stretches_of m_brackets_in m_how_many_ways m_number_of_way V_numbers_of V_signs_of V_stretches_of V_brackets_in V_how_many_ways V_number_of_way C_nth_way C__law_kind, b__law_told, F__law_told.kp, m__law_told⟩
  have C__law_signs : Cal l.prog w K mg base "_law_signs" 3 ["well"] spLSg7 := ⟨_, _, ok_law_signs7 F__law_signs C__law_draw, b__law_signs, F__law_signs.kp, m__law_signs⟩
  have C_how_many_ways : Cal l.prog w K mg base "how_many_ways" 4 ["signs", "many"] (spDown (spHow1 aS aN)) := ⟨_, _, ok_how_many_ways0 F_how_many_ways C_need_signs C_need_many C_counts_up_to, b_how_many_ways, F_how_many_ways.kp, m_how_many_ways⟩
  have C__law_right : Cal l.prog w K mg base "_law_right" 45 ["row", "signs", "way", "many", "number"] spRight7 := ⟨_, _, ok_right F__law_right B C__law_signs_in C__law_told C__law_is_signs C__law_whole C__law_is_row C_how_many_ways, b__law_right, F__law_right.kp, m__law_right⟩
  exact ok_law F_law B C__law_well C__law_draw C__law_row C__law_signs C__law_way C__law_odd C__law_bad_way C_how_many_ways C__law_right
theorem walk {l : PySem.W.OpenLaw} {q : Program} {loose : List Str} {XP : (Str → Option Value) → Heap → Prop} {YP : World → Heap → Prop} {d : DefRec} {K : Params → PySem.W.Frag} (hn : l.most = some 63) (hdf : d.params.defaults = []) (hi : PyProof.Rows.importsNone q = true)
    (hY : ∀ (w : World) (h : Heap), YP w h → (K w.params).In h)
    (F : ∀ (w : World) (mg : Str → Option Value) (fa : Addr) (h : Heap), (K w.params).In h → h.Ns mainGlobals mg → mg d.name = some (.ref fa) →
      ∃ fd : FuncData, (∀ (s : Shared) (u : Value), BindsTo s fd ⟨[u], []⟩ [("script", u)]) ∧ ∀ base : Heap, (K w.params).In base → base.Ns mainGlobals mg → FnOk l.prog w (K w.params) mg base CX0 46 fa fd ["script"] (spLaw (K w.params))) :
    PySem.W.WalkO q loose XP YP l.row.toRowW d [] (fun f vs => PySem.call f vs) :=
  L2.walk_of (n := 63) (k := 46) (x := "script") (CX := fun _ => CX0) (sp := fun w => spLaw (K w.params)) hn (by decide) hdf ⟨rfl, by decide, by decide, rfl⟩ hi hY F (fun _ _ a ns hl _ hS => ⟨a, ns, rfl, hS, hl, fun _ => rfl⟩) fun _ _ _ _ _ z => z
end Put
def PySem.W.Fast.tw17777424826273268035 : Nat := 0
def PySem.W.Fast.tw9896131037077148370 : Nat := 0
def PySem.W.Fast.tw12549346733951242478 : Nat := 0
def PySem.W.Fast.tw11104094471218922431 : Nat := 0
def PySem.W.Fast.tw4823800197137394396 : Nat := 0
def PySem.W.Fast.tw3633043548269479589 : Nat := 0
def PySem.W.Fast.tw1271886545898994472 : Nat := 0
def PySem.W.Fast.tw10913848906634210530 : Nat := 0
def PySem.W.Fast.tw548740612187522552 : Nat := 0
def PySem.W.Fast.tw8231929256909806345 : Nat := 0
def PySem.W.Fast.tw7456556876578226984 : Nat := 0
def PySem.W.Fast.tw3793063242868557788 : Nat := 0
def PySem.W.Fast.tw619210022619055148 : Nat := 0
def PySem.W.Fast.tw4955433388896017390 : Nat := 0
def PySem.W.Fast.tw6185935617335726074 : Nat := 0
def PySem.W.Fast.tw10457169627900090881 : Nat := 0
def PySem.W.Fast.tw5165107849291093300 : Nat := 0
def PySem.W.Fast.tw16296914146006254729 : Nat := 0
def PySem.W.Fast.tw10240824941744478548 : Nat := 0
def PySem.W.Fast.tw3130604361083764418 : Nat := 0
def PySem.W.Fast.tw14900857801011828055 : Nat := 0
open PySem PySem.W PyProof.Rows
set_option maxRecDepth 100000 in
set_option maxHeartbeats 0 in
theorem PySem.Challenge.cw_putsigns_k07_refused_by_rows_and_ways_holds : PySem.Challenge.rw_putsigns_k07_refused_by_rows_and_ways.Holds := by
  w_on; o_law; k_head; (case hw => w_witness2)
  k_fill
  refine Put.walk (l := PySem.Challenge.rw_putsigns_k07_refused_by_rows_and_ways) rfl rfl ?hi (fun w h Y => PySem.W.kIn_of Y) ?F
  case hi => first | rfl | decide +kernel
  case F =>
    intro w mg fa h KX G hmg
    refine' Put.all_mk KX G hmg ?a0 ?l0 ?c0 ?k0 ?a1 ?l1 ?c1 ?k1 ?a2 ?l2 ?c2 ?k2 ?a3 ?l3 ?c3 ?k3 ?a4 ?l4 ?c4 ?k4 ?a5 ?l5 ?c5 ?k5 ?a6 ?l6 ?c6 ?k6 ?a7 ?l7 ?c7 ?k7 ?a8 ?l8 ?c8 ?k8 ?a9 ?l9 ?c9 ?k9 ?a10 ?l10 ?c10 ?k10 ?a11 ?l11 ?c11 ?k11 ?a12 ?l12 ?c12 ?k12 ?a13 ?l13 ?c13 ?k13 ?a14 ?l14 ?c14 ?k14 ?a15 ?l15 ?c15 ?k15 ?a16 ?l16 ?c16 ?k16 ?a17 ?l17 ?c17 ?k17 ?a18 ?l18 ?c18 ?k18 ?a19 ?l19 ?c19 ?k19 ?a20 ?l20 ?c20 ?k20 ?a21 ?l21 ?c21 ?k21 ?a22 ?l22 ?c22 ?k22 ?a23 ?l23 ?c23 ?k23 ?a24 ?l24 ?c24 ?k24 ?a25 ?l25 ?c25 ?k25 ?a26 ?l26 ?c26 ?k26 ?a27 ?l27 ?c27 ?k27 ?a28 ?l28 ?c28 ?k28 ?a29 ?l29 ?c29 ?k29 ?a30 ?l30 ?c30 ?k30 ?a31 ?l31 ?c31 ?k31 ?a32 ?l32 ?c32 ?k32 ?a33 ?l33 ?c33 ?k33 ?a34 ?l34 ?c34 ?k34 ?a35 ?l35 ?c35 ?k35 ?a36 ?l36 ?c36 ?k36 ?a37 ?l37 ?c37 ?k37 ?a38 ?l38 ?c38 ?k38 ?a39 ?l39 ?c39 ?k39 ?a40 ?l40 ?c40 ?k40 ?a41 ?l41 ?c41 ?k41 ?a42 ?l42 ?c42 ?k42 ?a43 ?l43 ?c43 ?k43 ?a44 ?l44 ?c44 ?k44 ?a45 ?l45 ?c45 ?k45 ?a46 ?l46 ?c46 ?k46 ?z_len ?z_isinstance ?z_int ?z_bool ?z_str ?z_tuple ?z_list ?z_sorted ?z_range ?z_repr ?z_enumerate ?z_sum ?z_all ?z_min ?z_max ?z_abs ?z_divmod ?z_dict ?z_set ?gM ?gS ?lS ?gM3 ?gP ?lP ?n_PutError ?n_NoRow ?n_NoSigns ?n_NoWay ?n_NoNumber ?n_NoPlace ?n_NoFit ?n_NoForm ?n_NoAsk ?n_NoHolds ?n_NoText ?n_TooMany ?z_ValueError ?l_PutError ?s_PutError ?t_PutError ?i_PutError ?l_NoRow ?s_NoRow ?t_NoRow ?i_NoRow ?l_NoSigns ?s_NoSigns ?t_NoSigns ?i_NoSigns ?l_NoWay ?s_NoWay ?t_NoWay ?i_NoWay ?l_NoNumber ?s_NoNumber ?t_NoNumber ?i_NoNumber ?l_NoFit ?s_NoFit ?t_NoFit ?i_NoFit ?f1_NoRow ?f2_NoRow ?f3_NoRow ?f4_NoRow ?f5_NoRow ?f6_NoRow ?f1_NoSigns ?f2_NoSigns ?f3_NoSigns ?f4_NoSigns ?f5_NoSigns ?f6_NoSigns ?f1_NoWay ?f2_NoWay ?f3_NoWay ?f4_NoWay ?f5_NoWay ?f6_NoWay ?f1_NoNumber ?f2_NoNumber ?f3_NoNumber ?f4_NoNumber ?f5_NoNumber ?f6_NoNumber ?f1_NoFit ?f2_NoFit ?f3_NoFit ?f4_NoFit ?f5_NoFit ?f6_NoFit ?c_NoRow ?y_NoRow ?c_NoSigns ?y_NoSigns ?c_NoWay ?y_NoWay ?c_NoNumber ?y_NoNumber ?c_NoPlace ?y_NoPlace ?c_NoFit ?y_NoFit ?c_NoForm ?y_NoForm ?c_NoAsk ?y_NoAsk ?c_NoHolds ?y_NoHolds ?c_NoText ?y_NoText ?c_TooMany ?y_TooMany ?u_NoRow_NoSigns ?d_NoRow_NoSigns ?u_NoRow_NoWay ?d_NoRow_NoWay ?u_NoRow_NoNumber ?d_NoRow_NoNumber ?u_NoRow_NoPlace ?d_NoRow_NoPlace ?u_NoRow_NoFit ?d_NoRow_NoFit ?u_NoRow_NoForm ?d_NoRow_NoForm ?u_NoRow_NoAsk ?d_NoRow_NoAsk ?u_NoRow_NoHolds ?d_NoRow_NoHolds ?u_NoRow_NoText ?d_NoRow_NoText ?u_NoRow_TooMany ?d_NoRow_TooMany ?u_NoSigns_NoRow ?d_NoSigns_NoRow ?u_NoSigns_NoWay ?d_NoSigns_NoWay ?u_NoSigns_NoNumber ?d_NoSigns_NoNumber ?u_NoSigns_NoPlace ?d_NoSigns_NoPlace ?u_NoSigns_NoFit ?d_NoSigns_NoFit ?u_NoSigns_NoForm ?d_NoSigns_NoForm ?u_NoSigns_NoAsk ?d_NoSigns_NoAsk ?u_NoSigns_NoHolds ?d_NoSigns_NoHolds ?u_NoSigns_NoText ?d_NoSigns_NoText ?u_NoSigns_TooMany ?d_NoSigns_TooMany ?u_NoWay_NoRow ?d_NoWay_NoRow ?u_NoWay_NoSigns ?d_NoWay_NoSigns ?u_NoWay_NoNumber ?d_NoWay_NoNumber ?u_NoWay_NoPlace ?d_NoWay_NoPlace ?u_NoWay_NoFit ?d_NoWay_NoFit ?u_NoWay_NoForm ?d_NoWay_NoForm ?u_NoWay_NoAsk ?d_NoWay_NoAsk ?u_NoWay_NoHolds ?d_NoWay_NoHolds ?u_NoWay_NoText ?d_NoWay_NoText ?u_NoWay_TooMany ?d_NoWay_TooMany ?u_NoNumber_NoRow ?d_NoNumber_NoRow ?u_NoNumber_NoSigns ?d_NoNumber_NoSigns ?u_NoNumber_NoWay ?d_NoNumber_NoWay ?u_NoNumber_NoPlace ?d_NoNumber_NoPlace ?u_NoNumber_NoFit ?d_NoNumber_NoFit ?u_NoNumber_NoForm ?d_NoNumber_NoForm ?u_NoNumber_NoAsk ?d_NoNumber_NoAsk ?u_NoNumber_NoHolds ?d_NoNumber_NoHolds ?u_NoNumber_NoText ?d_NoNumber_NoText ?u_NoNumber_TooMany ?d_NoNumber_TooMany ?u_NoFit_NoRow ?d_NoFit_NoRow ?u_NoFit_NoSigns ?d_NoFit_NoSigns ?u_NoFit_NoWay ?d_NoFit_NoWay ?u_NoFit_NoNumber ?d_NoFit_NoNumber ?u_NoFit_NoPlace ?d_NoFit_NoPlace ?u_NoFit_NoForm ?d_NoFit_NoForm ?u_NoFit_NoAsk ?d_NoFit_NoAsk ?u_NoFit_NoHolds ?d_NoFit_NoHolds ?u_NoFit_NoText ?d_NoFit_NoText ?u_NoFit_TooMany ?d_NoFit_TooMany
    (case a0 => k_is)
    (case l0 => k_is)
    (case c0 => k_is)
    (case k0 => k_is)
    (case a1 => k_is)
    (case l1 => k_is)
    (case c1 => k_is)
    (case k1 => k_is)
    (case a2 => k_is)
    (case l2 => k_is)
    (case c2 => k_is)
    (case k2 => k_is)
    (case a3 => k_is)
    (case l3 => k_is)
    (case c3 => k_is)
    (case k3 => k_is)
    (case a4 => k_is)
    (case l4 => k_is)
    (case c4 => k_is)
    (case k4 => k_is)
    (case a5 => k_is)
    (case l5 => k_is)
    (case c5 => k_is)
    (case k5 => k_is)
    (case a6 => k_is)
    (case l6 => k_is)
    (case c6 => k_is)
    (case k6 => k_is)
    (case a7 => k_is)
    (case l7 => k_is)
    (case c7 => k_is)
    (case k7 => k_is)
    (case a8 => k_is)
    (case l8 => k_is)
    (case c8 => k_is)
    (case k8 => k_is)
    (case a9 => k_is)
    (case l9 => k_is)
    (case c9 => k_is)
    (case k9 => k_is)
    (case a10 => k_is)
    (case l10 => k_is)
    (case c10 => k_is)
    (case k10 => k_is)
    (case a11 => k_is)
    (case l11 => k_is)
    (case c11 => k_is)
    (case k11 => k_is)
    (case a12 => k_is)
    (case l12 => k_is)
    (case c12 => k_is)
    (case k12 => k_is)
    (case a13 => k_is)
    (case l13 => k_is)
    (case c13 => k_is)
    (case k13 => k_is)
    (case a14 => k_is)
    (case l14 => k_is)
    (case c14 => k_is)
    (case k14 => k_is)
    (case a15 => k_is)
    (case l15 => k_is)
    (case c15 => k_is)
    (case k15 => k_is)
    (case a16 => k_is)
    (case l16 => k_is)
    (case c16 => k_is)
    (case k16 => k_is)
    (case a17 => k_is)
    (case l17 => k_is)
    (case c17 => k_is)
    (case k17 => k_is)
    (case a18 => k_is)
    (case l18 => k_is)
    (case c18 => k_is)
    (case k18 => k_is)
    (case a19 => k_is)
    (case l19 => k_is)
    (case c19 => k_is)
    (case k19 => k_is)
    (case a20 => k_is)
    (case l20 => k_is)
    (case c20 => k_is)
    (case k20 => k_is)
    (case a21 => k_is)
    (case l21 => k_is)
    (case c21 => k_is)
    (case k21 => k_is)
    (case a22 => k_is)
    (case l22 => k_is)
    (case c22 => k_is)
    (case k22 => k_is)
    (case a23 => k_is)
    (case l23 => k_is)
    (case c23 => k_is)
    (case k23 => k_is)
    (case a24 => k_is)
    (case l24 => k_is)
    (case c24 => k_is)
    (case k24 => k_is)
    (case a25 => k_is)
    (case l25 => k_is)
    (case c25 => k_is)
    (case k25 => k_is)
    (case a26 => k_is)
    (case l26 => k_is)
    (case c26 => k_is)
    (case k26 => k_is)
    (case a27 => k_is)
    (case l27 => k_is)
    (case c27 => k_is)
    (case k27 => k_is)
    (case a28 => k_is)
    (case l28 => k_is)
    (case c28 => k_is)
    (case k28 => k_is)
    (case a29 => k_is)
    (case l29 => k_is)
    (case c29 => k_is)
    (case k29 => k_is)
    (case a30 => k_is)
    (case l30 => k_is)
    (case c30 => k_is)
    (case k30 => k_is)
    (case a31 => k_is)
    (case l31 => k_is)
    (case c31 => k_is)
    (case k31 => k_is)
    (case a32 => k_is)
    (case l32 => k_is)
    (case c32 => k_is)
    (case k32 => k_is)
    (case a33 => k_is)
    (case l33 => k_is)
    (case c33 => k_is)
    (case k33 => k_is)
    (case a34 => k_is)
    (case l34 => k_is)
    (case c34 => k_is)
    (case k34 => k_is)
    (case a35 => k_is)
    (case l35 => k_is)
    (case c35 => k_is)
    (case k35 => k_is)
    (case a36 => k_is)
    (case l36 => k_is)
    (case c36 => k_is)
    (case k36 => k_is)
    (case a37 => k_is)
    (case l37 => k_is)
    (case c37 => k_is)
    (case k37 => k_is)
    (case a38 => k_is)
    (case l38 => k_is)
    (case c38 => k_is)
    (case k38 => k_is)
    (case a39 => k_is)
    (case l39 => k_is)
    (case c39 => k_is)
    (case k39 => k_is)
    (case a40 => k_is)
    (case l40 => k_is)
    (case c40 => k_is)
    (case k40 => k_is)
    (case a41 => k_is)
    (case l41 => k_is)
    (case c41 => k_is)
    (case k41 => k_is)
    (case a42 => k_is)
    (case l42 => k_is)
    (case c42 => k_is)
    (case k42 => k_is)
    (case a43 => k_is)
    (case l43 => k_is)
    (case c43 => k_is)
    (case k43 => k_is)
    (case a44 => k_is)
    (case l44 => k_is)
    (case c44 => k_is)
    (case k44 => k_is)
    (case a45 => k_is)
    (case l45 => k_is)
    (case c45 => k_is)
    (case k45 => k_is)
    (case a46 => k_is)
    (case l46 => k_is)
    (case c46 => k_is)
    (case k46 => k_is)
    (case z_len => k_is)
    (case z_isinstance => k_is)
    (case z_int => k_is)
    (case z_bool => k_is)
    (case z_str => k_is)
    (case z_tuple => k_is)
    (case z_list => k_is)
    (case z_sorted => k_is)
    (case z_range => k_is)
    (case z_repr => k_is)
    (case z_enumerate => k_is)
    (case z_sum => k_is)
    (case z_all => k_is)
    (case z_min => k_is)
    (case z_max => k_is)
    (case z_abs => k_is)
    (case z_divmod => k_is)
    (case z_dict => k_is)
    (case z_set => k_is)
    (case gM => k_is)
    (case gS => k_is)
    (case lS => k_is)
    (case gM3 => k_is)
    (case gP => k_is)
    (case lP => k_is)
    (case n_PutError => k_is)
    (case n_NoRow => k_is)
    (case n_NoSigns => k_is)
    (case n_NoWay => k_is)
    (case n_NoNumber => k_is)
    (case n_NoPlace => k_is)
    (case n_NoFit => k_is)
    (case n_NoForm => k_is)
    (case n_NoAsk => k_is)
    (case n_NoHolds => k_is)
    (case n_NoText => k_is)
    (case n_TooMany => k_is)
    (case z_ValueError => k_is)
    (case l_PutError => k_is)
    (case s_PutError => k_is)
    (case t_PutError => rfl)
    (case i_PutError => rfl)
    (case l_NoRow => k_is)
    (case s_NoRow => k_is)
    (case t_NoRow => rfl)
    (case i_NoRow => rfl)
    (case l_NoSigns => k_is)
    (case s_NoSigns => k_is)
    (case t_NoSigns => rfl)
    (case i_NoSigns => rfl)
    (case l_NoWay => k_is)
    (case s_NoWay => k_is)
    (case t_NoWay => rfl)
    (case i_NoWay => rfl)
    (case l_NoNumber => k_is)
    (case s_NoNumber => k_is)
    (case t_NoNumber => rfl)
    (case i_NoNumber => rfl)
    (case l_NoFit => k_is)
    (case s_NoFit => k_is)
    (case t_NoFit => rfl)
    (case i_NoFit => rfl)
    (case f1_NoRow => k_is)
    (case f2_NoRow => k_is)
    (case f3_NoRow => k_is)
    (case f4_NoRow => k_is)
    (case f5_NoRow => k_is)
    (case f6_NoRow => k_is)
    (case f1_NoSigns => k_is)
    (case f2_NoSigns => k_is)
    (case f3_NoSigns => k_is)
    (case f4_NoSigns => k_is)
    (case f5_NoSigns => k_is)
    (case f6_NoSigns => k_is)
    (case f1_NoWay => k_is)
    (case f2_NoWay => k_is)
    (case f3_NoWay => k_is)
    (case f4_NoWay => k_is)
    (case f5_NoWay => k_is)
    (case f6_NoWay => k_is)
    (case f1_NoNumber => k_is)
    (case f2_NoNumber => k_is)
    (case f3_NoNumber => k_is)
    (case f4_NoNumber => k_is)
    (case f5_NoNumber => k_is)
    (case f6_NoNumber => k_is)
    (case f1_NoFit => k_is)
    (case f2_NoFit => k_is)
    (case f3_NoFit => k_is)
    (case f4_NoFit => k_is)
    (case f5_NoFit => k_is)
    (case f6_NoFit => k_is)
    (case c_NoRow => k_is)
    (case y_NoRow => k_is)
    (case c_NoSigns => k_is)
    (case y_NoSigns => k_is)
    (case c_NoWay => k_is)
    (case y_NoWay => k_is)
    (case c_NoNumber => k_is)
    (case y_NoNumber => k_is)
    (case c_NoPlace => k_is)
    (case y_NoPlace => k_is)
    (case c_NoFit => k_is)
    (case y_NoFit => k_is)
    (case c_NoForm => k_is)
    (case y_NoForm => k_is)
    (case c_NoAsk => k_is)
    (case y_NoAsk => k_is)
    (case c_NoHolds => k_is)
    (case y_NoHolds => k_is)
    (case c_NoText => k_is)
    (case y_NoText => k_is)
    (case c_TooMany => k_is)
    (case y_TooMany => k_is)
    (case u_NoRow_NoSigns => k_is)
    (case d_NoRow_NoSigns => rfl)
    (case u_NoRow_NoWay => k_is)
    (case d_NoRow_NoWay => rfl)
    (case u_NoRow_NoNumber => k_is)
    (case d_NoRow_NoNumber => rfl)
    (case u_NoRow_NoPlace => k_is)
    (case d_NoRow_NoPlace => rfl)
    (case u_NoRow_NoFit => k_is)
    (case d_NoRow_NoFit => rfl)
    (case u_NoRow_NoForm => k_is)
    (case d_NoRow_NoForm => rfl)
    (case u_NoRow_NoAsk => k_is)
    (case d_NoRow_NoAsk => rfl)
    (case u_NoRow_NoHolds => k_is)
    (case d_NoRow_NoHolds => rfl)
    (case u_NoRow_NoText => k_is)
    (case d_NoRow_NoText => rfl)
    (case u_NoRow_TooMany => k_is)
    (case d_NoRow_TooMany => rfl)
    (case u_NoSigns_NoRow => k_is)
    (case d_NoSigns_NoRow => rfl)
    (case u_NoSigns_NoWay => k_is)
    (case d_NoSigns_NoWay => rfl)
    (case u_NoSigns_NoNumber => k_is)
    (case d_NoSigns_NoNumber => rfl)
    (case u_NoSigns_NoPlace => k_is)
    (case d_NoSigns_NoPlace => rfl)
    (case u_NoSigns_NoFit => k_is)
    (case d_NoSigns_NoFit => rfl)
    (case u_NoSigns_NoForm => k_is)
    (case d_NoSigns_NoForm => rfl)
    (case u_NoSigns_NoAsk => k_is)
    (case d_NoSigns_NoAsk => rfl)
    (case u_NoSigns_NoHolds => k_is)
    (case d_NoSigns_NoHolds => rfl)
    (case u_NoSigns_NoText => k_is)
    (case d_NoSigns_NoText => rfl)
    (case u_NoSigns_TooMany => k_is)
    (case d_NoSigns_TooMany => rfl)
    (case u_NoWay_NoRow => k_is)
    (case d_NoWay_NoRow => rfl)
    (case u_NoWay_NoSigns => k_is)
    (case d_NoWay_NoSigns => rfl)
    (case u_NoWay_NoNumber => k_is)
    (case d_NoWay_NoNumber => rfl)
    (case u_NoWay_NoPlace => k_is)
    (case d_NoWay_NoPlace => rfl)
    (case u_NoWay_NoFit => k_is)
    (case d_NoWay_NoFit => rfl)
    (case u_NoWay_NoForm => k_is)
    (case d_NoWay_NoForm => rfl)
    (case u_NoWay_NoAsk => k_is)
    (case d_NoWay_NoAsk => rfl)
    (case u_NoWay_NoHolds => k_is)
    (case d_NoWay_NoHolds => rfl)
    (case u_NoWay_NoText => k_is)
    (case d_NoWay_NoText => rfl)
    (case u_NoWay_TooMany => k_is)
    (case d_NoWay_TooMany => rfl)
    (case u_NoNumber_NoRow => k_is)
    (case d_NoNumber_NoRow => rfl)
    (case u_NoNumber_NoSigns => k_is)
    (case d_NoNumber_NoSigns => rfl)
    (case u_NoNumber_NoWay => k_is)
    (case d_NoNumber_NoWay => rfl)
    (case u_NoNumber_NoPlace => k_is)
    (case d_NoNumber_NoPlace => rfl)
    (case u_NoNumber_NoFit => k_is)
    (case d_NoNumber_NoFit => rfl)
    (case u_NoNumber_NoForm => k_is)
    (case d_NoNumber_NoForm => rfl)
    (case u_NoNumber_NoAsk => k_is)
    (case d_NoNumber_NoAsk => rfl)
    (case u_NoNumber_NoHolds => k_is)
    (case d_NoNumber_NoHolds => rfl)
    (case u_NoNumber_NoText => k_is)
    (case d_NoNumber_NoText => rfl)
    (case u_NoNumber_TooMany => k_is)
    (case d_NoNumber_TooMany => rfl)
    (case u_NoFit_NoRow => k_is)
    (case d_NoFit_NoRow => rfl)
    (case u_NoFit_NoSigns => k_is)
    (case d_NoFit_NoSigns => rfl)
    (case u_NoFit_NoWay => k_is)
    (case d_NoFit_NoWay => rfl)
    (case u_NoFit_NoNumber => k_is)
    (case d_NoFit_NoNumber => rfl)
    (case u_NoFit_NoPlace => k_is)
    (case d_NoFit_NoPlace => rfl)
    (case u_NoFit_NoForm => k_is)
    (case d_NoFit_NoForm => rfl)
    (case u_NoFit_NoAsk => k_is)
    (case d_NoFit_NoAsk => rfl)
    (case u_NoFit_NoHolds => k_is)
    (case d_NoFit_NoHolds => rfl)
    (case u_NoFit_NoText => k_is)
    (case d_NoFit_NoText => rfl)
    (case u_NoFit_TooMany => k_is)
    (case d_NoFit_TooMany => rfl)

