import PyProof.Rows.All
import Wide.All
import OpenK.AllK
import Wide.FinOn
import Lean
import PyProof.EqAt
import PyProof.EqKinds
import PyProof.TupleCall
import PySem.Challenge.RW_putsigns_k10_refused_by_worths
-- CHANGE: your row's module here, as the last of these rows
set_option Elab.async false
set_option linter.all false
set_option maxRecDepth 100000
/-! THE HAND LAYER, for ints, bools, texts, own classes, LISTS and tuples (index, slices, in, append, pop ..), calls, loops. Paste it whole ahead of your own text; what your proof does not reach may be deleted. -/
namespace L2
open PySem PySem.Spec PyProof.Rows

/-- a key: an int or a str -/
abbrev Key := Sum Int Str
def keyIs : Key → Value → Bool
  | .inl k, v => Value.isInt k v
  | .inr x, v => Value.isStrOf x v
def keyH (w : World) : Key → Int
  | .inl k => hashInt k
  | .inr x => hashStr w x
theorem keyIs_shape : ∀ {k : Key} {v : Value}, keyIs k v = true → (∃ i t, k = Sum.inl i ∧ v = Value.int i t) ∨ (∃ x t, k = Sum.inr x ∧ v = Value.str x t)
  | .inl i, v, h => by
    obtain ⟨t, e⟩ := Value.isInt_shape (k := i) (v := v) h
    exact .inl ⟨i, t, rfl, e⟩
  | .inr x, v, h => by
    obtain ⟨t, e⟩ := Value.isStrOf_shape (x := x) (v := v) h
    exact .inr ⟨x, t, rfl, e⟩
theorem keyIs_int (i : Int) (t : Tok) : keyIs (.inl i) (.int i t) = true := by simp [keyIs, Value.isInt]
theorem keyIs_str (x : Str) (t : Tok) : keyIs (.inr x) (.str x t) = true := by simp [keyIs, Value.isStrOf]
theorem key_ll (a b : Int) : decide ((Sum.inl a : Key) = Sum.inl b) = (a == b) := by
  by_cases e : a = b
  · subst e; simp
  · have h : ¬ (Sum.inl a : Key) = Sum.inl b := fun q => e (Sum.inl.inj q)
    rw [decide_eq_false h]
    exact (beq_eq_false_iff_ne.mpr e).symm
theorem key_rr (a b : Str) : decide ((Sum.inr a : Key) = Sum.inr b) = decide (a = b) := by
  by_cases e : a = b
  · subst e; simp
  · have h : ¬ (Sum.inr a : Key) = Sum.inr b := fun q => e (Sum.inr.inj q)
    rw [decide_eq_false h, decide_eq_false e]
theorem key_lr (a : Int) (b : Str) : decide ((Sum.inl a : Key) = Sum.inr b) = false := decide_eq_false (fun q => nomatch q)
theorem key_rl (a : Str) (b : Int) : decide ((Sum.inr a : Key) = Sum.inl b) = false := decide_eq_false (fun q => nomatch q)

def mixKind (prog : Program) (w : World) : PySem.KeyKind prog w Key where
  is := keyIs
  hash := keyH w
  inj := fun v a b ha hb => by
    rcases keyIs_shape ha with ⟨i, t, rfl, rfl⟩ | ⟨x, t, rfl, rfl⟩
    · rcases keyIs_shape hb with ⟨j, u, rfl, e⟩ | ⟨y, u, rfl, e⟩
      · injection e with e1 _; rw [e1]
      · exact nomatch e
    · rcases keyIs_shape hb with ⟨j, u, rfl, e⟩ | ⟨y, u, rfl, e⟩
      · exact nomatch e
      · injection e with e1 _; rw [e1]
  byValue := fun k v h => by
    rcases keyIs_shape h with ⟨i, t, rfl, rfl⟩ | ⟨x, t, rfl, rfl⟩ <;> rfl
  pyHash := fun hv h => by
    rcases keyIs_shape hv with ⟨i, t, rfl, rfl⟩ | ⟨x, t, rfl, rfl⟩
    · exact wpAny_pyHash_int h
    · exact wpAny_pyHash_str h
  eqBool := fun hu hv h => by
    rcases keyIs_shape hu with ⟨i, t, rfl, rfl⟩ | ⟨x, t, rfl, rfl⟩
    · rcases keyIs_shape hv with ⟨j, u, rfl, rfl⟩ | ⟨y, u, rfl, rfl⟩
      · rw [key_ll] at h; exact wpAny_eqBool_int h
      · rw [key_lr] at h; exact SeqAt.EqAt.int_str i t y u _ _ _ _ h
    · rcases keyIs_shape hv with ⟨j, u, rfl, rfl⟩ | ⟨y, u, rfl, rfl⟩
      · rw [key_rl] at h; exact SeqAt.EqAt.str_int x t j u _ _ _ _ h
      · rw [key_rr] at h; exact wpAny_eqBool_str h
  «strs» := fun k x t v h => by
    rcases keyIs_shape h with ⟨i, u, rfl, e⟩ | ⟨y, u, rfl, e⟩
    · exact nomatch e
    · injection e with e1 _
      subst e1
      cases v <;> rfl

theorem mixKind_is (prog : Program) (w : World) (k : Key) (v : Value) : (mixKind prog w).is k v = keyIs k v := rfl
theorem mixKind_int (prog : Program) (w : World) (i : Int) (t : Tok) : (mixKind prog w).is (.inl i) (.int i t) = true := keyIs_int i t
theorem mixKind_str (prog : Program) (w : World) (x : Str) (t : Tok) : (mixKind prog w).is (.inr x) (.str x t) = true := keyIs_str x t
end L2

namespace L2
open PySem PySem.Spec PyProof.Rows

/-- a value, without the heap -/
inductive V where
  | non | bl (b : Bool) | int (i : Int) | str (x : Str) | byt (b : Array UInt8) | flt (b : UInt64) | ref (a : Addr) | ty (n : String)
  deriving DecidableEq

def RelV : V → Value → Prop
  | .non, u => u = Value.none
  | .bl b, u => u = Value.bool b
  | .int i, u => ∃ t, u = Value.int i t
  | .str x, u => ∃ t, u = Value.str x t
  | .byt b, u => ∃ t, u = Value.bytes b t
  | .flt b, u => ∃ t, u = Value.float b t
  | .ref a, u => u = Value.ref a
  | .ty n, u => u = Value.type n

abbrev Vals : List V → List Value → Prop := Paired RelV
theorem Vals.length {xs : List V} {us : List Value} (r : Vals xs us) : xs.length = us.length := Paired.length r
theorem Vals.get : ∀ {xs : List V} {us : List Value} {i : Nat} {x : V}, Vals xs us → xs[i]? = some x → ∃ u, us[i]? = some u ∧ RelV x u
  | _, _, _, _, .nil, e => by simp at e
  | _, _, 0, _, .cons r _, e => by simp at e; subst e; exact ⟨_, rfl, r⟩
  | _, _, i + 1, x, .cons _ t, e => by
    obtain ⟨u, h1, h2⟩ := Vals.get (i := i) (x := x) t (by simpa using e)
    exact ⟨u, by simpa using h1, h2⟩
theorem Vals.set {x : V} {u : Value} (r : RelV x u) : ∀ {xs : List V} {us : List Value} (i : Nat), Vals xs us → Vals (xs.set i x) (us.set i u)
  | _, _, _, .nil => .nil
  | _, _, 0, .cons _ t => .cons r t
  | _, _, i + 1, .cons q t => .cons q (Vals.set r i t)
theorem Vals.append : ∀ {xs ys : List V} {us ws : List Value}, Vals xs us → Vals ys ws → Vals (xs ++ ys) (us ++ ws)
  | _, _, _, _, .nil, s => s
  | _, _, _, _, .cons r t, s => .cons r (Vals.append t s)
theorem Vals.take : ∀ {xs : List V} {us : List Value} (n : Nat), Vals xs us → Vals (xs.take n) (us.take n)
  | _, _, 0, _ => .nil
  | _, _, _ + 1, .nil => .nil
  | _, _, n + 1, .cons r t => .cons r (Vals.take n t)
theorem Vals.drop : ∀ {xs : List V} {us : List Value} (n : Nat), Vals xs us → Vals (xs.drop n) (us.drop n)
  | _, _, 0, r => r
  | _, _, _ + 1, .nil => .nil
  | _, _, n + 1, .cons _ t => Vals.drop n t
def RelO : Option V → Option Value → Prop
  | some v, some u => RelV v u
  | none, none => True
  | _, _ => False
def KV {κ : Type} : List (κ × V) → List (κ × Value) → Prop := Paired fun (p : κ × V) (q : κ × Value) => p.1 = q.1 ∧ RelV p.2 q.2

/-- a key of a dict (00_mix): an int or a text -/
def kV : Key → V
  | .inl i => .int i
  | .inr x => .str x

/-- what stands at a tracked address -/
inductive HO where
  /-- a list -/
  | lst (xs : List V)
  /-- a tuple (never changes) -/
  | tup (xs : List V)
  /-- a dict whose keys are ints and texts; one whose keys are tuples of ints and texts (the empty one is both) -/
  | dK (kvs : List (Key × V)) | dT (kvs : List (List Key × V))
  /-- a set of ints: its members, its size -/
  | set (S : Int → Bool) (n : Nat)
  /-- an instance of the class at C, its dict at dx, its attributes -/
  | ins (C dx : Addr) (fs : List (Str × V))
  /-- the dict of the instance at x -/
  | own (x : Addr)
  /-- the dict of an exception -/
  | xd (fs : List (Str × V))
  /-- a bound method, f of x -/
  | met (f x : Addr)
  /-- a range object lo, lo + 1, .. below hi -/
  | rng (lo hi : Int)
  /-- a thing that is known to the object (the script; a dict while a loop walks it): read, never written while it is so -/
  | frz (o : Obj) (u : HO)
  /-- a code object's table -/
  | tbl (ps : Array Value)
  /-- any other thing, by what is true of its one object (a def of one's own: SetO a S n := HO.ext fun h => ..) -/
  | ext (φ : Heap → Prop)

abbrev Hp := Addr → Option HO
def upd (H : Hp) (a : Addr) (o : HO) : Hp := fun b => if b = a then some o else H b
theorem upd_same {H : Hp} {a : Addr} {o : HO} : upd H a o a = some o := by unfold upd; rw [if_pos rfl]
theorem upd_ne {H : Hp} {a b : Addr} {o : HO} (h : b ≠ a) : upd H a o b = H b := by unfold upd; rw [if_neg h]
/-- two objects of different content stand apart -/
theorem ne_of {H : Hp} {a b : Addr} {o u : HO} (h : H a = some o) (h' : H b = some u) (d : o ≠ u) : a ≠ b := by
  intro e; subst e; rw [h] at h'; exact d (Option.some.inj h')
theorem ne_of_none {H : Hp} {a b : Addr} {o : HO} (h : H a = some o) (h' : H b = none) : a ≠ b := by
  intro e; subst e; rw [h] at h'; cases h'

section
variable (P : Program) (w : World)
def ObjOk (H : Hp) (h : Heap) (a : Addr) : HO → Prop
  | .lst xs => xs.length ≤ sizeLine ∧ ∃ (its : List Value) (n : Nat), Vals xs its ∧ h.get? a = some { cls := .type "list", data := .seq its.toArray n }
  | .tup xs => xs.length ≤ sizeLine ∧ ∃ its : List Value, Vals xs its ∧ IsTup h a its.toArray
  | .dK kvs => kvs.length ≤ sizeLine ∧ (a == sysModules) = false ∧ ∃ vs, KV kvs vs ∧ h.DictOf (mixKind P w) a vs
  | .dT kvs => kvs.length ≤ sizeLine ∧ (a == sysModules) = false ∧ ∃ xs : List (List Key × Addr × Value),
      Paired (fun (p : List Key × V) (q : List Key × Addr × Value) => p.1 = q.1 ∧ H q.2.1 = some (.tup (p.1.map kV)) ∧ RelV p.2 q.2.2) kvs xs ∧
      ∃ o es ep, h.get? a = some o ∧ o.ExactDict ∧ o.data = .dict es ep ∧ es.toList = xs.map (entryOfKey (tupleKind (mixKind P w))) ∧ (xs.map (·.1)).Nodup
  | .set S n => h.SetOf (intKind P w) a S n
  | .ins C dx fs => H dx = some (.own a) ∧ fs.length ≤ 1000 ∧ dx ≠ a ∧ h.get? a = some (PySem.W.instObj C dx) ∧
      ∃ mA, h.Ns1 dx mA ∧ (∀ f, RelO (fs.lookup f) (mA f)) ∧ PySem.Within mA (fs.map (·.1))
  | .own _ => ∃ o, h.get? a = some o
  | .xd fs => ∃ mA, h.Ns1 a mA ∧ ∀ f, RelO (fs.lookup f) (mA f)
  | .rng lo hi => ∃ t u v, h.get? a = some { cls := .type "range", data := .fields #[.int lo t, .int hi u, .int 1 v] }
  | .frz o u => h.get? a = some o ∧ ObjOk H h a u
  | .tbl ps => h.get? a = some { cls := .none, data := .fields ps }
  | .met f x => h.get? a = some (PySem.W.methodObj (.ref f) (.ref x))
  | .ext φ => φ h ∧ (∃ o, h.get? a = some o) ∧ ∀ h1 h2 : Heap, φ h1 → (∀ o, h1.get? a = some o → h2.get? a = some o) → φ h2
/-- the abstract heap is held -/
def HOk (H : Hp) (h : Heap) : Prop := ∀ a o, H a = some o → ObjOk P w H h a o
end

section
variable {P : Program} {w : World} {H H' : Hp} {h h' : Heap} {a : Addr} {o : HO}
theorem ObjOk.lt (x : ObjOk P w H h a o) : a < h.objs.size := by
  cases o with
  | lst xs => obtain ⟨_, _, _, _, e⟩ := x; exact Heap.lt_size e
  | tup xs => obtain ⟨_, _, _, p⟩ := x; exact p.lt
  | dK kvs => obtain ⟨_, _, _, _, o, _, _, e, _⟩ := x; exact Heap.lt_size e
  | dT kvs => obtain ⟨_, _, _, _, o, _, _, e, _⟩ := x; exact Heap.lt_size e
  | set S n => obtain ⟨o, _, _, _, e, _⟩ := x; exact Heap.lt_size e
  | ins C dx fs => obtain ⟨_, _, _, e, _⟩ := x; exact Heap.lt_size e
  | own y => obtain ⟨_, e⟩ := x; exact Heap.lt_size e
  | xd fs => obtain ⟨_, ⟨_, _, _, e, _⟩, _⟩ := x; exact Heap.lt_size e
  | rng lo hi => obtain ⟨_, _, _, e⟩ := x; exact Heap.lt_size e
  | frz ob u => obtain ⟨e, _⟩ := x; exact Heap.lt_size e
  | tbl ps => exact Heap.lt_size (show h.get? a = some _ from x)
  | met f y => exact Heap.lt_size (show h.get? a = some _ from x)
  | ext φ => obtain ⟨_, ⟨_, e⟩, _⟩ := x; exact Heap.lt_size e
theorem Paired.mapP {α β : Type} {F G : α → β → Prop} : ∀ {l₁ : List α} {l₂ : List β}, Paired F l₁ l₂ → (∀ a b, F a b → G a b) → Paired G l₁ l₂
  | _, _, .nil, _ => .nil
  | _, _, .cons r t, f => .cons (f _ _ r) (Paired.mapP t f)
/-- what an object's description leans on: its own object, its own dict, the tuples -/
theorem ObjOk.stay (x : ObjOk P w H h a o) (k : ∀ b u, (b = a ∨ H b = some (.own a)) → h.get? b = some u → h'.get? b = some u)
    (ho : ∀ b, H b = some (.own a) → H' b = some (.own a)) (ht : ∀ b xs, H b = some (.tup xs) → H' b = some (.tup xs)) : ObjOk P w H' h' a o := by
  induction o with
  | lst xs => obtain ⟨z, its, n, r, e⟩ := x; exact ⟨z, its, n, r, k _ _ (.inl rfl) e⟩
  | tup xs => obtain ⟨z, its, r, ob, e, c⟩ := x; exact ⟨z, its, r, ob, k _ _ (.inl rfl) e, c⟩
  | dK kvs => obtain ⟨z, y, vs, r, ob, es, ep, e, c⟩ := x; exact ⟨z, y, vs, r, ob, es, ep, k _ _ (.inl rfl) e, c⟩
  | dT kvs =>
    obtain ⟨z, y, xs, r, ob, es, ep, e, c⟩ := x
    exact ⟨z, y, xs, Paired.mapP r fun p q z => ⟨z.1, ht _ _ z.2.1, z.2.2⟩, ob, es, ep, k _ _ (.inl rfl) e, c⟩
  | set S n => obtain ⟨ob, es, ep, t, e, c⟩ := x; exact ⟨ob, es, ep, t, k _ _ (.inl rfl) e, c⟩
  | ins C dx fs =>
    obtain ⟨d, z, ne, e, mA, ⟨od, es, ep, e2, c⟩, r⟩ := x
    exact ⟨ho _ d, z, ne, k _ _ (.inl rfl) e, mA, ⟨od, es, ep, k _ _ (.inr d) e2, c⟩, r⟩
  | own y => obtain ⟨ob, e⟩ := x; exact ⟨ob, k _ _ (.inl rfl) e⟩
  | xd fs => obtain ⟨mA, ⟨od, es, ep, e, c⟩, r⟩ := x; exact ⟨mA, ⟨od, es, ep, k _ _ (.inl rfl) e, c⟩, r⟩
  | rng lo hi => obtain ⟨t, u, v, e⟩ := x; exact ⟨t, u, v, k _ _ (.inl rfl) e⟩
  | frz ob u ih => obtain ⟨e, q⟩ := x; exact ⟨k _ _ (.inl rfl) e, ih q⟩
  | tbl ps =>
    have e : h.get? a = some { cls := .none, data := .fields ps } := x
    show h'.get? a = some { cls := .none, data := .fields ps }
    exact k a _ (.inl rfl) e
  | met f y =>
    have e : h.get? a = some (PySem.W.methodObj (.ref f) (.ref y)) := x
    show h'.get? a = some (PySem.W.methodObj (.ref f) (.ref y))
    exact k a _ (.inl rfl) e
  | ext φ => obtain ⟨p, ⟨o, e⟩, st⟩ := x; exact ⟨st _ _ p fun o q => k _ _ (.inl rfl) q, ⟨o, k _ _ (.inl rfl) e⟩, st⟩
theorem HOk.lt (x : HOk P w H h) (e : H a = some o) : a < h.objs.size := (x a o e).lt
theorem HOk.fresh (x : HOk P w H h) (e : h.objs.size ≤ a) : H a = none := by
  cases q : H a with
  | none => rfl
  | some u => exact absurd (Nat.lt_of_lt_of_le (x.lt q) e) (Nat.lt_irrefl _)
/-- every object of the heap is kept -/
theorem HOk.kept (x : HOk P w H h) (k : ∀ b u, h.get? b = some u → h'.get? b = some u) : HOk P w H h' := fun a o e =>
  (x a o e).stay (fun b u _ q => k b u q) (fun _ q => q) fun _ _ q => q
/-- a new object is laid and tracked -/
theorem HOk.laid (x : HOk P w H h) (k : ∀ b u, h.get? b = some u → h'.get? b = some u) (hp : h.objs.size ≤ a) (new : ObjOk P w (upd H a o) h' a o) : HOk P w (upd H a o) h' := fun b u e => by
  have hn := x.fresh hp
  by_cases hb : b = a
  · subst hb; rw [upd_same] at e; cases e; exact new
  · rw [upd_ne hb] at e
    exact (x b u e).stay (fun c v _ q => k c v q) (fun c q => by rw [upd_ne (ne_of_none q hn)]; exact q) fun c xs q => by rw [upd_ne (ne_of_none q hn)]; exact q
end

/-- what may be read as u: it is u, or a known u -/
def Rd (H : Hp) (a : Addr) (u : HO) : Prop := H a = some u ∨ ∃ o, H a = some (.frz o u)
theorem Rd.ok {P : Program} {w : World} {H : Hp} {h : Heap} {a : Addr} {u : HO} (r : Rd H a u) (x : HOk P w H h) : ObjOk P w H h a u := by
  rcases r with r | ⟨o, r⟩
  · exact x a u r
  · obtain ⟨_, q⟩ := x a _ r
    exact q
/-- what may be written -/
def Mut : Option HO → Prop
  | some (.lst _) => True
  | some (.dK _) => True
  | some (.dT _) => True
  | some (.set _ _) => True
  | some (.ins _ _ _) => True
  | some (.ext _) => True
  | _ => False
section
variable {P : Program} {w : World} {H : Hp} {h h' : Heap} {x e : Addr} {o' : HO}
/-- the object at e is changed: x itself, or the dict of the instance x -/
theorem HOk.write (ok : HOk P w H h) (mu : Mut (H x)) (he : e = x ∨ H e = some (.own x)) (k : ∀ b u, b ≠ e → h.get? b = some u → h'.get? b = some u) (heo : ∃ u, h'.get? e = some u)
    (new : ObjOk P w (upd H x o') h' x o') : HOk P w (upd H x o') h' := fun b u q => by
  have nown : ∀ c y, H c = some (.own y) → c ≠ x := fun c y r z => by subst z; rw [r] at mu; exact mu
  have ntup : ∀ c xs, H c = some (.tup xs) → c ≠ x := fun c xs r z => by subst z; rw [r] at mu; exact mu
  by_cases hb : b = x
  · subst hb; rw [upd_same] at q; cases q; exact new
  · rw [upd_ne hb] at q
    by_cases hbe : b = e
    · have q' : H b = some (.own x) := by
        rcases he with z | z
        · exact absurd (hbe.trans z) hb
        · rw [hbe]; exact z
      rw [q] at q'; cases q'
      obtain ⟨v, hv⟩ := heo
      exact ⟨v, by rw [hbe]; exact hv⟩
    · refine (ok b u q).stay (fun c v hc r => k c v ?_ r) (fun c r => by rw [upd_ne (nown c b r)]; exact r) fun c xs r => by rw [upd_ne (ntup c xs r)]; exact r
      rcases hc with rfl | hc
      · exact hbe
      · rintro rfl
        rcases he with z | z
        · exact nown c b hc z
        · rw [hc] at z; cases z; exact hb rfl
end

/-! ### kept unless tracked; of the frames at fs (the callers') the slots may change (an exception that passes writes there); of the records at ex (iterators) nothing is said -/
structure Un (fs ex : List Addr) (H H' : Hp) (h h' : Heap) : Prop where
  keep : ∀ b o, h.get? b = some o → H b = none → b ∉ fs → b ∉ ex → h'.get? b = some o
  slot : ∀ b o, h.get? b = some o → H b = none → b ∈ fs → b ∉ ex → ∃ sl, h'.get? b = some { o with slots := sl }
  free : ∀ b o, h.get? b = some o → H b = none → b ∉ ex → H' b = none
  there : ∀ b o, h.get? b = some o → b ∉ ex → ∃ o', h'.get? b = some o'
  tups : ∀ b xs, H b = some (.tup xs) → H' b = some (.tup xs)
  frzs : ∀ b o u, H b = some (.frz o u) → H' b = some (.frz o u)
  tbls : ∀ b ps, H b = some (.tbl ps) → ∃ more, H' b = some (.tbl (ps ++ more))
section
variable {fs fs' ex ex' : List Addr} {H H1 H2 : Hp} {h h1 h2 h' : Heap} {a x e : Addr} {o : HO}
theorem Un.any (u : Un fs ex H H1 h h1) {b : Addr} {ob : Obj} (q : h.get? b = some ob) (n : H b = none) (hx : b ∉ ex) : ∃ sl, h1.get? b = some { ob with slots := sl } := by
  by_cases hb : b ∈ fs
  · exact u.slot b ob q n hb hx
  · exact ⟨ob.slots, u.keep b ob q n hb hx⟩
theorem Un.trans (a : Un fs ex H H1 h h1) (b : Un fs ex H1 H2 h1 h2) : Un fs ex H H2 h h2 where
  keep := fun c ob q n hc hx => b.keep c ob (a.keep c ob q n hc hx) (a.free c ob q n hx) hc hx
  slot := fun c ob q n hc hx => by
    obtain ⟨sl, e1⟩ := a.slot c ob q n hc hx
    obtain ⟨sl', e2⟩ := b.slot c _ e1 (a.free c ob q n hx) hc hx
    exact ⟨sl', e2⟩
  free := fun c ob q n hx => by
    obtain ⟨o', e1⟩ := a.there c ob q hx
    exact b.free c o' e1 (a.free c ob q n hx) hx
  there := fun c ob q hx => by
    obtain ⟨o', e1⟩ := a.there c ob q hx
    exact b.there c o' e1 hx
  tups := fun c xs q => b.tups c xs (a.tups c xs q)
  frzs := fun c ob xs q => b.frzs c ob xs (a.frzs c ob xs q)
  tbls := fun c ps q => by
    obtain ⟨m1, e1⟩ := a.tbls c ps q
    obtain ⟨m2, e2⟩ := b.tbls c _ e1
    exact ⟨m1 ++ m2, by rw [e2, Array.append_assoc]⟩
theorem Un.kept (k : ∀ b u, h.get? b = some u → h'.get? b = some u) : Un fs ex H H h h' :=
  ⟨fun b ob q _ _ _ => k b ob q, fun b ob q _ _ _ => ⟨ob.slots, k b ob q⟩, fun _ _ _ n _ => n, fun b ob q _ => ⟨ob, k b ob q⟩, fun _ _ q => q, fun _ _ _ q => q, fun _ ps q => ⟨#[], by rw [q]; simp⟩⟩
theorem Un.refl : Un fs ex H H h h := Un.kept fun _ _ q => q
theorem Un.laid (k : ∀ b u, h.get? b = some u → h'.get? b = some u) (hp : h.objs.size ≤ a) (hn : H a = none) : Un fs ex H (upd H a o) h h' where
  keep := fun b u q _ _ _ => k b u q
  slot := fun b u q _ _ _ => ⟨u.slots, k b u q⟩
  free := fun b u q n _ => by rw [upd_ne (Nat.ne_of_lt (Nat.lt_of_lt_of_le (Heap.lt_size q) hp))]; exact n
  there := fun b u q _ => ⟨u, k b u q⟩
  tups := fun b xs q => by rw [upd_ne (ne_of_none q hn)]; exact q
  frzs := fun b u xs q => by rw [upd_ne (ne_of_none q hn)]; exact q
  tbls := fun b ps q => ⟨#[], by rw [upd_ne (ne_of_none q hn), q]; simp⟩
theorem Un.write (mu : Mut (H x)) (he : e = x ∨ H e = some (.own x)) (k : ∀ b u, b ≠ e → h.get? b = some u → h'.get? b = some u) (heo : ∃ u, h'.get? e = some u) : Un fs ex H (upd H x o) h h' := by
  have hx : ∀ b, H b = none → b ≠ x := fun b n z => by subst z; rw [n] at mu; exact mu
  have hb : ∀ b, H b = none → b ≠ e := fun b n z => by
    subst z
    rcases he with r | r
    · exact hx b n r
    · rw [n] at r; cases r
  have hm : ∀ b u, H b = some u → ¬ Mut (some u) → b ≠ x := fun b u q nm z => by subst z; rw [q] at mu; exact nm mu
  refine ⟨fun b u q n _ _ => k b u (hb b n) q, fun b u q n _ _ => ⟨u.slots, k b u (hb b n) q⟩, fun b u q n _ => by rw [upd_ne (hx b n)]; exact n, fun b u q _ => ?_,
    fun b xs q => by rw [upd_ne (hm b _ q fun z => z)]; exact q, fun b u xs q => by rw [upd_ne (hm b _ q fun z => z)]; exact q, fun b ps q => ⟨#[], by rw [upd_ne (hm b _ q fun z => z), q]; simp⟩⟩
  by_cases hbe : b = e
  · subst hbe; exact heo
  · exact ⟨u, k b u hbe q⟩
theorem Un.mono (u : Un fs ex H H1 h h1) (hs : ∀ b ∈ fs, b ∈ fs') (hx : ∀ b ∈ ex, b ∈ ex') : Un fs' ex' H H1 h h1 :=
  ⟨fun b ob q n hb he => u.keep b ob q n (fun z => hb (hs b z)) fun z => he (hx b z), fun _ _ q n _ he => u.any q n fun z => he (hx _ z), fun b ob q n he => u.free b ob q n fun z => he (hx b z), fun b ob q he => u.there b ob q fun z => he (hx b z), u.tups, u.frzs, u.tbls⟩
end

/-! ### the heap without what is tracked -/
def trk (h : Heap) (H : Hp) : List Addr := (List.range h.objs.size).filter fun a => (H a).isSome
def hidT (h : Heap) (H : Hp) : Heap := PySem.W.hideAll h (trk h H)
theorem hidT_size (h : Heap) (H : Hp) : (hidT h H).objs.size = h.objs.size := PySem.W.hideAll_size _ _
theorem hidT_get {h : Heap} {H : Hp} {b : Addr} {o : Obj} (e : h.get? b = some o) (n : H b = none) : (hidT h H).get? b = some o :=
  PySem.W.hideAll_get _ e fun hm => by
    have q : (H b).isSome = true := (List.mem_filter.mp hm).2
    rw [n] at q; simp at q
theorem of_hidT {h : Heap} {H : Hp} {b : Addr} {o : Obj} (e : (hidT h H).get? b = some o) : h.get? b = some o ∧ H b = none := by
  have e' : h.get? b = some o := PySem.W.of_hideAll (trk h H) e
  refine ⟨e', ?_⟩
  cases q : H b with
  | none => rfl
  | some x =>
    have hm : b ∈ trk h H := List.mem_filter.mpr ⟨List.mem_range.mpr (Heap.lt_size e'), by simp [q]⟩
    have z : (hidT h H).get? b = none := PySem.W.hideAll_none (trk h H) hm
    rw [z] at e; cases e

/-! ### OpenK's ledger, filled with every new object but one -/
def allNews (g h : Heap) (L : Addr) : List (Addr × Obj) := (List.range h.objs.size).filterMap fun a => if a = L ∨ (g.get? a).isSome = true then none else (h.get? a).map fun o => (a, o)
def rest (g h : Heap) (L d : Addr) : List (Addr × Obj) := (allNews g h L).filter fun p => decide (p.1 ≠ d)
end L2

namespace L2
open PySem PySem.Spec PyProof.Rows

/-- the module's facts, over the base: the heap at the law's entry without what is tracked there -/
structure Mod (K : PySem.W.Frag) (mg : Str → Option Value) (base : Heap) : Prop where
  kin : K.In base
  glob : base.Ns mainGlobals mg
  blt : ∃ mb, base.Ns builtinsNs mb ∧ ∀ x : Str, x ≠ "__name__" → mb x = bootBuiltins x
  nolimit : base.NoLimit
  sysm : ∃ mm, base.Ns sysModules mm

/-- the context: a def's body (or a comprehension's block) running. base: fixed through the whole law; s₀, H₀: the entry; outer: the frames whose slots others may change (a def's callers); stack: all frames that run;
   ex: iterators that were made ahead of the entry and are walked here (a comprehension's); fn: the names whose cells were made at the entry (a def: all; a comprehension's block: its own); calm: not within an except suite; pn: pins that every state bears; xe: what is wanted of an exception that leaves the code -/
structure Cx where
  prog : Program
  w : World
  K : PySem.W.Frag
  mg : Str → Option Value
  base : Heap
  A : Around
  N : List Str
  s₀ : Shared
  H₀ : Hp
  env : Env
  outer : List Env
  stack : List Env
  ex : List Addr
  fn : Str → Bool
  calm : Bool
  pn : List (Addr × Obj)
  xe : Value → Shared → Prop
/-- the callers' frames -/
def frs (l : List Env) : List Addr := l.filterMap (·.frame)
abbrev Cx.fs (X : Cx) : List Addr := frs X.outer

def Vis (sc : Scope) (x : Str) : Prop := sc.names.lookup x = some .local ∨ sc.names.lookup x = some .cell ∨ sc.names.lookup x = some .free
def Loc (sc : Scope) (x : Str) : Prop := sc.names.lookup x = some .local ∨ sc.names.lookup x = some .cell
def Look (env : Env) (h : Heap) (m : Str → Option Value) (x : Str) (u : Value) : Prop :=
  (env.kindOf x = some .local ∧ m x = some u) ∨ ((env.kindOf x = some .cell ∨ env.kindOf x = some .free) ∧ ∃ c, env.cells.lookup x = some c ∧ h.IsCell c (some u))

structure Cx.Ok (X : Cx) : Prop where
  mod : Mod X.K X.mg X.base
  kind : X.env.scope.kind = .function
  glob : X.env.globals = mainGlobals
  blt : X.env.builtins = builtinsNs
  above : X.s₀.heap.objs.size ≤ X.env.locals
  inj : ∀ x y c, X.env.cells.lookup x = some c → X.env.cells.lookup y = some c → x = y
  has : ∀ x, (X.env.kindOf x = some .cell ∨ X.env.kindOf x = some .free) → ∃ c, X.env.cells.lookup x = some c
  cab : ∀ x c, X.fn x = true → X.env.cells.lookup x = some c → X.s₀.heap.objs.size ≤ c
  hd : X.calm = true → X.A.handled = none
  frames : X.A.frames = some X.stack
  stk : X.stack = X.outer ∨ (X.stack = X.env :: X.outer ∧ X.env.frame = some X.env.locals)
  exf : ∀ b ∈ X.ex, b ≠ X.env.locals ∧ ∀ x c, X.env.cells.lookup x = some c → c ≠ b
  bs : ∀ b o, X.base.get? b = some o → X.s₀.heap.get? b = some o ∧ X.H₀ b = none
  bsz : X.base.objs.size ≤ X.s₀.heap.objs.size
  noex : ∀ b o, X.base.get? b = some o → b ∉ X.ex
  exfs : ∀ b ∈ X.ex, b ∉ X.fs
  funs : X.s₀.heap.FunFrames X.base X.outer
  frf : ∀ b ∈ X.fs, X.H₀ b = none

structure Inv (X : Cx) (pins : List (Addr × Obj)) (σ : List (Option V)) (H : Hp) (s : Shared) : Prop where
  ok : X.Ok
  os : s.os = X.s₀.os
  bare : AllBare s.gens
  base : Un X.fs X.ex X.H₀ H X.s₀.heap s.heap
  loc : ∃ m, s.heap.Ns X.env.locals m ∧ ∀ (i : Nat) (x : Str) (v : V), X.N[i]? = some x → σ[i]? = some (some v) → Vis X.env.scope x → ∃ u, RelV v u ∧ Look X.env s.heap m x u
  cell : ∀ x c, X.env.cells.lookup x = some c → ∃ v, s.heap.IsCell c v
  free : H X.env.locals = none
  freeC : ∀ x c, X.env.cells.lookup x = some c → H c = none
  pin : ∀ p ∈ X.pn ++ pins, s.heap.get? p.1 = some p.2 ∧ H p.1 = none ∧ p.1 ≠ X.env.locals ∧ p.1 ∉ X.fs ∧ ∀ v, p.2.data ≠ .cell v
  hok : HOk X.prog X.w H s.heap
  len : σ.length = X.N.length

section
variable {X : Cx} {pins : List (Addr × Obj)} {σ : List (Option V)} {H H' : Hp} {s : Shared} {h' : Heap}

theorem Cx.Ok.nofr (ok : X.Ok) {b : Addr} {o : Obj} (e : X.base.get? b = some o) : b ∉ X.fs := fun hb => by
  have := (ok.funs.mem hb).1
  rw [e] at this; cases this
theorem Inv.bs (I : Inv X pins σ H s) : ∀ b o, X.base.get? b = some o → s.heap.get? b = some o ∧ H b = none := fun b o e =>
  ⟨I.base.keep b o (I.ok.bs b o e).1 (I.ok.bs b o e).2 (I.ok.nofr e) (I.ok.noex b o e), I.base.free b o (I.ok.bs b o e).1 (I.ok.bs b o e).2 (I.ok.noex b o e)⟩
theorem Inv.bk (I : Inv X pins σ H s) : ∀ b o, X.base.get? b = some o → s.heap.get? b = some o := fun b o e => (I.bs b o e).1
theorem Inv.mod (I : Inv X pins σ H s) : Mod X.K X.mg X.base := I.ok.mod
theorem Inv.kIn (I : Inv X pins σ H s) : X.K.In s.heap := I.ok.mod.kin.keeps I.bk
theorem Inv.lt (I : Inv X pins σ H s) : X.env.locals < s.heap.objs.size := let ⟨_, hn, _⟩ := I.loc; hn.lt
theorem Inv.sz (I : Inv X pins σ H s) : X.s₀.heap.objs.size ≤ s.heap.objs.size := Nat.le_trans I.ok.above (Nat.le_of_lt I.lt)
theorem Inv.nofs (I : Inv X pins σ H s) {a : Addr} (h : s.heap.objs.size ≤ a) : a ∉ X.fs := fun hb => by
  obtain ⟨_, o, ho, _⟩ := I.ok.funs.mem hb
  exact absurd (Nat.lt_of_lt_of_le (Heap.lt_size ho) (Nat.le_trans I.sz h)) (Nat.lt_irrefl _)
theorem Inv.cne (I : Inv X pins σ H s) : ∀ x c, X.env.cells.lookup x = some c → c ≠ X.env.locals := fun x c e z => by
  obtain ⟨v, o, ho, hd⟩ := I.cell x c e
  obtain ⟨m, ⟨o', es, ep, ho', hd', _⟩, _⟩ := I.loc
  rw [z, ho'] at ho; cases ho; rw [hd'] at hd; cases hd
theorem Inv.funs (I : Inv X pins σ H s) : s.heap.FunFrames X.base X.outer := by
  have all : ∀ (l : List Env), (∀ b ∈ frs l, b ∈ X.fs) → X.s₀.heap.FunFrames X.base l → s.heap.FunFrames X.base l := by
    intro l
    induction l with
    | nil => intro _ _; trivial
    | cons env r ih =>
      intro hs hl
      obtain ⟨hk, ⟨L, o, hf, hn, ho, hd⟩, hr⟩ := hl
      have hL : L ∈ X.fs := hs L (by unfold frs; rw [List.filterMap_cons, hf]; exact List.mem_cons_self)
      obtain ⟨sl, e⟩ := I.base.slot L o ho (I.ok.frf L hL) hL fun z => I.ok.exfs L z hL
      exact ⟨hk, ⟨L, _, hf, hn, e, hd⟩, ih (fun b hb => hs b (by unfold frs; rw [List.filterMap_cons, hf]; exact List.mem_cons_of_mem _ hb)) hr⟩
  exact all X.outer (fun _ hb => hb) I.ok.funs

/-- the frames that run, for a call -/
theorem Inv.stack (I : Inv X pins σ H s) : s.heap.FunFrames X.base X.stack := by
  rcases I.ok.stk with e | ⟨e, hf⟩
  · rw [e]; exact I.funs
  · rw [e]
    obtain ⟨m, hn, _⟩ := I.loc
    refine .cons (by rw [I.ok.kind]; decide) hf hn ?_ I.funs
    exact Heap.get?_none_of_le (Nat.le_trans I.ok.bsz I.ok.above)
theorem Inv.stkSub (I : Inv X pins σ H s) : ∀ b ∈ frs X.stack, b ∈ X.env.locals :: X.fs := fun b hb => by
  rcases I.ok.stk with e | ⟨e, hf⟩
  · rw [e] at hb; exact List.mem_cons_of_mem _ hb
  · rw [e] at hb
    unfold frs at hb
    rw [List.filterMap_cons, hf] at hb
    exact hb
theorem Inv.stkFree (I : Inv X pins σ H s) : ∀ b ∈ frs X.stack, H b = none := fun b hb => by
  rcases List.mem_cons.mp (I.stkSub b hb) with e | hb
  · rw [e]; exact I.free
  · obtain ⟨_, o, ho, _⟩ := I.ok.funs.mem hb
    exact I.base.free b o ho (I.ok.frf b hb) fun z => I.ok.exfs b z hb

/-- THE STEP: the untracked objects but the frame and the records at ch are kept (the callers' frames up to slots), the frame's map is kept, the new abstract heap is held -/
theorem Inv.step {g' : Array GenState} {t' : Nat} {d' : Drawn} {ch : List Addr} (I : Inv X pins σ H s)
    (hch : ∀ b ∈ ch, (b ∈ X.ex ∨ X.s₀.heap.objs.size ≤ b) ∧ b ≠ X.env.locals ∧ (∀ x c, X.env.cells.lookup x = some c → c ≠ b) ∧ ∀ p ∈ X.pn ++ pins, p.1 ≠ b)
    (keep : ∀ b o, b ≠ X.env.locals → b ∉ X.fs → b ∉ ch → s.heap.get? b = some o → H b = none → h'.get? b = some o)
    (slot : ∀ b o, b ≠ X.env.locals → b ∈ X.fs → b ∉ ch → s.heap.get? b = some o → H b = none → ∃ sl, h'.get? b = some { o with slots := sl }) (free : ∀ b o, b ∉ ch → s.heap.get? b = some o → H b = none → H' b = none)
    (there : ∀ b o, b ∉ ch → s.heap.get? b = some o → ∃ o', h'.get? b = some o')
    (tups : ∀ b xs, H b = some (.tup xs) → H' b = some (.tup xs)) (frzs : ∀ b o u, H b = some (.frz o u) → H' b = some (.frz o u)) (tbls : ∀ b ps, H b = some (.tbl ps) → ∃ more, H' b = some (.tbl (ps ++ more)))
    (ns : ∀ m, s.heap.Ns X.env.locals m → h'.Ns X.env.locals m) (hok : HOk X.prog X.w H' h') (hg : AllBare g') :
    Inv X pins σ H' { s with heap := h', gens := g', drawn := d', toks := t' } := by
  have neL : ∀ b o, X.s₀.heap.get? b = some o → b ≠ X.env.locals := fun b o e => Nat.ne_of_lt (Nat.lt_of_lt_of_le (Heap.lt_size e) I.ok.above)
  have neC : ∀ b o, X.s₀.heap.get? b = some o → b ∉ X.ex → b ∉ ch := fun b o e hx hb => by
    rcases (hch b hb).1 with z | z
    · exact hx z
    · exact absurd (Nat.lt_of_lt_of_le (Heap.lt_size e) z) (Nat.lt_irrefl _)
  have cellK : ∀ x c, X.env.cells.lookup x = some c → ∀ v, s.heap.IsCell c v → h'.IsCell c v := fun x c e v ⟨o, ho, hd⟩ => by
    have nch : c ∉ ch := fun z => (hch c z).2.2.1 x c e rfl
    by_cases hc : c ∈ X.fs
    · obtain ⟨sl, q⟩ := slot c o (I.cne x c e) hc nch ho (I.freeC x c e)
      exact ⟨_, q, hd⟩
    · exact ⟨o, keep c o (I.cne x c e) hc nch ho (I.freeC x c e), hd⟩
  refine ⟨I.ok, I.os, hg, ⟨fun b o e n hb hx => ?_, fun b o e n hb hx => ?_, fun b o e n hx => ?_, fun b o e hx => ?_, fun b xs e => tups b xs (I.base.tups b xs e), fun b o xs e => frzs b o xs (I.base.frzs b o xs e), fun b ps e => ?_⟩, ?_, fun x c e => ?_, ?_, fun x c e => ?_, fun p hp => ?_, hok, I.len⟩
  · exact keep b o (neL b o e) hb (neC b o e hx) (I.base.keep b o e n hb hx) (I.base.free b o e n hx)
  · obtain ⟨sl, e1⟩ := I.base.slot b o e n hb hx
    obtain ⟨sl', e2⟩ := slot b _ (neL b o e) hb (neC b o e hx) e1 (I.base.free b o e n hx)
    exact ⟨sl', e2⟩
  · obtain ⟨o', e1⟩ := I.base.there b o e hx
    exact free b o' (neC b o e hx) e1 (I.base.free b o e n hx)
  · obtain ⟨o', e1⟩ := I.base.there b o e hx
    exact there b o' (neC b o e hx) e1
  · obtain ⟨m1, e1⟩ := I.base.tbls b ps e
    obtain ⟨m2, e2⟩ := tbls b _ e1
    exact ⟨m1 ++ m2, by rw [e2, Array.append_assoc]⟩
  · obtain ⟨m, hn, hl⟩ := I.loc
    refine ⟨m, ns m hn, fun i x v e1 e2 e3 => ?_⟩
    obtain ⟨u, r, l⟩ := hl i x v e1 e2 e3
    refine ⟨u, r, ?_⟩
    rcases l with l | ⟨k, c, e, z⟩
    · exact .inl l
    · exact .inr ⟨k, c, e, cellK x c e _ z⟩
  · obtain ⟨v, z⟩ := I.cell x c e
    exact ⟨v, cellK x c e v z⟩
  · obtain ⟨m, ⟨o, _, _, ho, _⟩, _⟩ := I.loc
    exact free _ o (fun z => (hch _ z).2.1 rfl) ho I.free
  · obtain ⟨v, o, ho, hd⟩ := I.cell x c e
    exact free c o (fun z => (hch c z).2.2.1 x c e rfl) ho (I.freeC x c e)
  · obtain ⟨e, n, ne, nf, d⟩ := I.pin p hp
    have nch : p.1 ∉ ch := fun z => (hch p.1 z).2.2.2 p hp rfl
    exact ⟨keep p.1 p.2 ne nf nch e n, free p.1 p.2 nch e n, ne, nf, d⟩
/-- .. where the frame's own object is kept too -/
theorem Inv.un {t' : Nat} (I : Inv X pins σ H s) (u : Un X.fs [] H H' s.heap h') (hok : HOk X.prog X.w H' h') : Inv X pins σ H' { s with heap := h', toks := t' } := by
  obtain ⟨m, ⟨o, es, ep, ho, r⟩, _⟩ := id I.loc
  obtain ⟨sl, hL⟩ := u.any ho I.free (by simp)
  exact I.step (g' := s.gens) (d' := s.drawn) (ch := []) (fun _ z => nomatch z) (fun b o _ hb _ e n => u.keep b o e n hb (by simp)) (fun b o _ hb _ e n => u.slot b o e n hb (by simp)) (fun b o _ e n => u.free b o e n (by simp)) (fun b o _ e => u.there b o e (by simp)) u.tups u.frzs u.tbls (fun m' hm => by
    obtain ⟨o', es', ep', ho', r'⟩ := hm
    rw [ho] at ho'; cases ho'
    exact ⟨_, es', ep', hL, r'⟩) hok I.bare
/-- behind a call (or a comprehension's block): the slots of this frame may have changed too, the records at ch may have turned -/
theorem Inv.call {g' : Array GenState} {t' : Nat} {d' : Drawn} {ch : List Addr} (I : Inv X pins σ H s) (u : Un (frs X.stack) ch H H' s.heap h') (hok : HOk X.prog X.w H' h') (hg : AllBare g')
    (hch : ∀ b ∈ ch, (b ∈ X.ex ∨ X.s₀.heap.objs.size ≤ b) ∧ b ≠ X.env.locals ∧ (∀ x c, X.env.cells.lookup x = some c → c ≠ b) ∧ ∀ p ∈ X.pn ++ pins, p.1 ≠ b) :
    Inv X pins σ H' { s with heap := h', gens := g', drawn := d', toks := t' } := by
  obtain ⟨m, ⟨o, es, ep, ho, r⟩, _⟩ := id I.loc
  obtain ⟨sl, hL⟩ := u.any ho I.free fun z => (hch _ z).2.1 rfl
  exact I.step (ch := ch) hch (fun b o hL hb hc e n => u.keep b o e n (fun z => (List.mem_cons.mp (I.stkSub b z)).elim hL hb) hc) (fun b o _ _ hc e n => u.any e n hc) (fun b o hc e n => u.free b o e n hc) (fun b o hc e => u.there b o e hc) u.tups u.frzs u.tbls (fun m' hm => by
    obtain ⟨o', es', ep', ho', r'⟩ := hm
    rw [ho] at ho'; cases ho'
    exact ⟨_, es', ep', hL, r'⟩) hok hg
/-- an untracked record of ours (an iterator) has turned -/
theorem Inv.turned {t' : Nat} {it : Addr} (I : Inv X pins σ H s) (k : ∀ b o, b ≠ it → s.heap.get? b = some o → h'.get? b = some o) (hn : H it = none) (hL : it ≠ X.env.locals)
    (h1 : it ∈ X.ex ∨ X.s₀.heap.objs.size ≤ it) (h2 : ∀ x c, X.env.cells.lookup x = some c → c ≠ it) (h3 : ∀ p ∈ X.pn ++ pins, p.1 ≠ it) : Inv X pins σ H { s with heap := h', toks := t' } := by
  have nit : ∀ b u, H b = some u → b ≠ it := fun b u e z => by rw [z, hn] at e; cases e
  refine I.step (g' := s.gens) (d' := s.drawn) (ch := [it]) (fun b hb => ?_) (fun b o _ _ hc e _ => k b o (fun z => hc (by simp [z])) e) (fun b o _ _ hc e _ => ⟨o.slots, k b o (fun z => hc (by simp [z])) e⟩) (fun _ _ _ _ n => n)
    (fun b o hc e => ⟨o, k b o (fun z => hc (by simp [z])) e⟩) (fun _ _ e => e) (fun _ _ _ e => e) (fun b ps e => ⟨#[], by rw [e]; simp⟩) (fun m hm => ?_) (fun b u e => ?_) I.bare
  · have e : b = it := by simpa using hb
    subst e
    exact ⟨h1, hL, h2, h3⟩
  · obtain ⟨o, es, ep, ho, r⟩ := hm
    exact ⟨o, es, ep, k _ o (Ne.symm hL) ho, r⟩
  · refine (I.hok b u e).stay (fun c v hc q => k c v ?_ q) (fun _ q => q) fun _ _ q => q
    rcases hc with z | z
    · rw [z]; exact nit b u e
    · exact nit c _ z
theorem Inv.tok (I : Inv X pins σ H s) (t : Nat) : Inv X pins σ H { s with toks := t } := I.un (h' := s.heap) (t' := t) Un.refl I.hok
/-- all objects kept -/
theorem Inv.kept {t' : Nat} (I : Inv X pins σ H s) (k : ∀ b u, s.heap.get? b = some u → h'.get? b = some u) : Inv X pins σ H { s with heap := h', toks := t' } := I.un (Un.kept k) (I.hok.kept k)
/-- a new object laid and tracked -/
theorem Inv.laid {a : Addr} {o : HO} {t' : Nat} (I : Inv X pins σ H s) (k : ∀ b u, s.heap.get? b = some u → h'.get? b = some u) (hp : s.heap.objs.size ≤ a) (new : ObjOk X.prog X.w (upd H a o) h' a o) :
    Inv X pins σ (upd H a o) { s with heap := h', toks := t' } := I.un (Un.laid k hp (I.hok.fresh hp)) (I.hok.laid k hp new)
/-- an object written -/
theorem Inv.write {x e : Addr} {o : HO} {t' : Nat} (I : Inv X pins σ H s) (mu : Mut (H x)) (he : e = x ∨ H e = some (.own x)) (k : ∀ b u, b ≠ e → s.heap.get? b = some u → h'.get? b = some u) (heo : ∃ u, h'.get? e = some u)
    (new : ObjOk X.prog X.w (upd H x o) h' x o) : Inv X pins σ (upd H x o) { s with heap := h', toks := t' } := I.un (Un.write mu he k heo) (I.hok.write mu he k heo new)
theorem Inv.pins_of {pins' : List (Addr × Obj)} (I : Inv X pins σ H s) (h : ∀ p ∈ pins', s.heap.get? p.1 = some p.2 ∧ H p.1 = none ∧ p.1 ≠ X.env.locals ∧ p.1 ∉ X.fs ∧ ∀ v, p.2.data ≠ .cell v) : Inv X pins' σ H s :=
  ⟨I.ok, I.os, I.bare, I.base, I.loc, I.cell, I.free, I.freeC, fun p hp => (List.mem_append.mp hp).elim (fun z => I.pin p (List.mem_append_left _ z)) (h p), I.hok, I.len⟩

theorem nodup_ix {N : List Str} (hN : N.Nodup) {i j : Nat} {x : Str} (a : N[i]? = some x) (b : N[j]? = some x) : i = j := by
  obtain ⟨h1, e1⟩ := List.getElem?_eq_some_iff.mp a
  obtain ⟨h2, e2⟩ := List.getElem?_eq_some_iff.mp b
  exact (List.getElem_inj hN).mp (e1.trans e2.symm)

/-- a name is stored; what changed -/
theorem store_ok2 {M : Model} {A : Around} {E : Value → Shared → Prop} {i : Nat} {x : Str} {v : V} {u : Value} {Q : Unit → Shared → Prop} (I : Inv X pins σ H s) (hN : X.N.Nodup) (hi : X.N[i]? = some x) (hx : Loc X.env.scope x) (r : RelV v u)
    (h : ∀ s', Inv X pins (σ.set i (some v)) H s' → (∃ a, Heap.SameBut a s.heap s'.heap ∧ (a = X.env.locals ∨ X.env.cells.lookup x = some a)) → Q () s') (hf : X.fn x = true ∨ X.env.scope.names.lookup x = some .local := by first | exact .inl rfl | exact .inr rfl | assumption) : wpAny M A (storeName X.env x u) Q E s := by
  obtain ⟨m, hn, hl⟩ := id I.loc
  have hcls : (X.env.scope.kind == .class || (X.env.scope.kind == .module && X.env.locals != X.env.globals)) = false := by rw [I.ok.kind]; rfl
  have hiσ : i < σ.length := by rw [I.len]; exact (List.getElem?_eq_some_iff.mp hi).1
  have cne := I.cne
  have tracked : ∀ {a : Addr} {h' : Heap}, (∃ o, s.heap.get? a = some o ∧ H a = none) → Heap.SameBut a s.heap h' → HOk X.prog X.w H h' := fun {a h'} ha hs b ob e => by
    obtain ⟨_, _, hfree⟩ := ha
    refine (I.hok b ob e).stay (fun c w' hc q => (hs.2 c ?_).trans q) (fun _ q => q) fun _ _ q => q
    rintro rfl
    rcases hc with rfl | hc
    · rw [hfree] at e; cases e
    · rw [hfree] at hc; cases hc
  rcases hx with hk | hk
  · refine wpAny_storeName_local hk hn (fun h' hn' hs => ?_) hcls
    obtain ⟨oL, _, _, hoL, _⟩ := id hn
    refine h _ ⟨I.ok, I.os, I.bare, ⟨fun b o e n hb hx => ?_, fun b o e n hb hx => ?_, I.base.free, fun b o e hx => ?_, I.base.tups, I.base.frzs, I.base.tbls⟩, ⟨_, hn', fun j y v' e1 e2 e3 => ?_⟩, fun y c e => ?_, I.free, I.freeC, fun p hp => ?_, tracked ⟨oL, hoL, I.free⟩ hs, by simpa using I.len⟩ ⟨_, hs, .inl rfl⟩
    · exact (hs.2 b (Nat.ne_of_lt (Nat.lt_of_lt_of_le (Heap.lt_size e) I.ok.above))).trans (I.base.keep b o e n hb hx)
    · obtain ⟨sl, e1⟩ := I.base.slot b o e n hb hx
      exact ⟨sl, (hs.2 b (Nat.ne_of_lt (Nat.lt_of_lt_of_le (Heap.lt_size e) I.ok.above))).trans e1⟩
    · obtain ⟨o', e1⟩ := I.base.there b o e hx
      exact ⟨o', (hs.2 b (Nat.ne_of_lt (Nat.lt_of_lt_of_le (Heap.lt_size e) I.ok.above))).trans e1⟩
    · by_cases hj : j = i
      · subst hj
        rw [hi] at e1; cases e1
        rw [List.getElem?_set_self hiσ] at e2
        cases e2
        exact ⟨u, r, .inl ⟨hk, by simp⟩⟩
      · rw [List.getElem?_set_ne (Ne.symm hj)] at e2
        obtain ⟨u', r', q⟩ := hl j y v' e1 e2 e3
        refine ⟨u', r', ?_⟩
        rcases q with ⟨k, e⟩ | ⟨k, c, e, z⟩
        · refine .inl ⟨k, ?_⟩
          have : y ≠ x := fun e => hj (nodup_ix hN e1 (e ▸ hi))
          simp [this, e]
        · exact .inr ⟨k, c, e, z.sameBut hs (cne y c e)⟩
    · obtain ⟨w', z⟩ := I.cell y c e
      exact ⟨w', z.sameBut hs (cne y c e)⟩
    · obtain ⟨e, n, ne, nf, d⟩ := I.pin p hp
      exact ⟨(hs.2 p.1 ne).trans e, n, ne, nf, d⟩
  · have hfn : X.fn x = true := by
      rcases hf with z | z
      · exact z
      · rw [z] at hk; cases hk
    obtain ⟨c, hc⟩ := I.ok.has x (.inl hk)
    obtain ⟨w', z⟩ := I.cell x c hc
    refine wpAny_storeName_cell I.ok.kind hk hc z (fun h' hc' hs => ?_)
    obtain ⟨oc, hoc, hocd⟩ := id z
    refine h { s with heap := h' } ⟨I.ok, I.os, I.bare, ⟨fun b o e n hb hx => ?_, fun b o e n hb hx => ?_, I.base.free, fun b o e hx => ?_, I.base.tups, I.base.frzs, I.base.tbls⟩, ⟨m, hn.sameBut hs (Ne.symm (cne x c hc)), fun j y v' e1 e2 e3 => ?_⟩, fun y c' e => ?_, I.free, I.freeC, fun p hp => ?_, tracked ⟨oc, hoc, I.freeC x c hc⟩ hs, by simpa using I.len⟩ ⟨c, hs, .inr hc⟩
    · exact (hs.2 b (Nat.ne_of_lt (Nat.lt_of_lt_of_le (Heap.lt_size e) (I.ok.cab x c hfn hc)))).trans (I.base.keep b o e n hb hx)
    · obtain ⟨sl, e1⟩ := I.base.slot b o e n hb hx
      exact ⟨sl, (hs.2 b (Nat.ne_of_lt (Nat.lt_of_lt_of_le (Heap.lt_size e) (I.ok.cab x c hfn hc)))).trans e1⟩
    · obtain ⟨o', e1⟩ := I.base.there b o e hx
      exact ⟨o', (hs.2 b (Nat.ne_of_lt (Nat.lt_of_lt_of_le (Heap.lt_size e) (I.ok.cab x c hfn hc)))).trans e1⟩
    · by_cases hj : j = i
      · subst hj
        rw [hi] at e1; cases e1
        rw [List.getElem?_set_self hiσ] at e2
        cases e2
        exact ⟨u, r, .inr ⟨.inl hk, c, hc, hc'⟩⟩
      · rw [List.getElem?_set_ne (Ne.symm hj)] at e2
        obtain ⟨u', r', q⟩ := hl j y v' e1 e2 e3
        refine ⟨u', r', ?_⟩
        rcases q with q | ⟨k, c', e, z'⟩
        · exact .inl q
        · refine .inr ⟨k, c', e, z'.sameBut hs ?_⟩
          rintro rfl
          exact hj (nodup_ix hN e1 (I.ok.inj _ _ _ e hc ▸ hi))
    · by_cases hcc : c' = c
      · subst hcc; exact ⟨_, hc'⟩
      · obtain ⟨w2, z2⟩ := I.cell y c' e
        exact ⟨w2, z2.sameBut hs hcc⟩
    · obtain ⟨e, n, ne, nf, d⟩ := I.pin p hp
      refine ⟨(hs.2 p.1 ?_).trans e, n, ne, nf, d⟩
      intro q
      rw [q, hoc] at e
      have q' : oc = p.2 := Option.some.inj e
      exact d w' (by rw [← q']; exact hocd)
theorem store_ok {M : Model} {A : Around} {E : Value → Shared → Prop} {i : Nat} {x : Str} {v : V} {u : Value} {Q : Unit → Shared → Prop} (I : Inv X pins σ H s) (hN : X.N.Nodup) (hi : X.N[i]? = some x) (hx : Loc X.env.scope x) (r : RelV v u)
    (h : ∀ s', Inv X pins (σ.set i (some v)) H s' → Q () s') (hf : X.fn x = true ∨ X.env.scope.names.lookup x = some .local := by first | exact .inl rfl | exact .inr rfl | assumption) : wpAny M A (storeName X.env x u) Q E s :=
  store_ok2 I hN hi hx r (fun s' I' _ => h s' I') hf
/-- behind a call or a block, the state as it is -/
theorem Inv.call' {s' : Shared} {ch : List Addr} (I : Inv X pins σ H s) (ho : s'.os = s.os) (u : Un (frs X.stack) ch H H' s.heap s'.heap) (hok : HOk X.prog X.w H' s'.heap) (hg : AllBare s'.gens)
    (hch : ∀ b ∈ ch, (b ∈ X.ex ∨ X.s₀.heap.objs.size ≤ b) ∧ b ≠ X.env.locals ∧ (∀ x c, X.env.cells.lookup x = some c → c ≠ b) ∧ ∀ p ∈ X.pn ++ pins, p.1 ≠ b) : Inv X pins σ H' s' := by
  obtain ⟨h', g', d', t', o'⟩ := s'
  have e : o' = s.os := ho
  subst e
  exact I.call (g' := g') (t' := t') (d' := d') u hok hg hch
end

/-! ### the judgements -/
/-- an exception: its class, its own dict's address (where it has one), the abstract heap behind it -/
abbrev XK := Value → Option Addr → Hp → Prop
abbrev St := List (Option V)
abbrev VK := V → Hp → Prop
/-- an expression's reading; a test's; an argument list's -/
abbrev TE := St → Hp → VK → Prop
abbrev TT := St → Hp → (Bool → Hp → Prop) → Prop
abbrev TA := St → Hp → (List V → Hp → Prop) → Prop
/-- what is wanted behind a statement -/
structure Ends where
  nx : St → Hp → Prop
  rt : VK
  bk : St → Hp → Prop := fun _ _ => False
  ct : St → Hp → Prop := fun _ _ => False
abbrev TS := Ends → St → Hp → Prop

def EP (X : Cx) (pins : List (Addr × Obj)) (σ : St) (Q : VK) (u : Value) (s' : Shared) : Prop := ∃ v H', Inv X pins σ H' s' ∧ RelV v u ∧ Q v H'
def TP (X : Cx) (pins : List (Addr × Obj)) (σ : St) (Q : Bool → Hp → Prop) (b : Bool) (s' : Shared) : Prop := ∃ H', Inv X pins σ H' s' ∧ Q b H'
def AP (X : Cx) (pins : List (Addr × Obj)) (σ : St) (Q : List V → Hp → Prop) (us : List Value) (s' : Shared) : Prop := ∃ vs H', Inv X pins σ H' s' ∧ Vals vs us ∧ Q vs H'
def SP (X : Cx) (pins : List (Addr × Obj)) (D : Ends) (f : Flow) (s' : Shared) : Prop :=
  match f with
  | .next => ∃ σ' H', Inv X pins σ' H' s' ∧ D.nx σ' H'
  | .brk => ∃ σ' H', Inv X pins σ' H' s' ∧ D.bk σ' H'
  | .cont => ∃ σ' H', Inv X pins σ' H' s' ∧ D.ct σ' H'
  | .ret u => ∃ v σ' H', Inv X pins σ' H' s' ∧ RelV v u ∧ D.rt v H'

def PE (X : Cx) (e : Expr) (t : TE) : Prop :=
  ∀ (pins : List (Addr × Obj)) (s : Shared) (σ : St) (H : Hp) (Q : VK), Inv X pins σ H s → t σ H Q → wpAny (model X.prog X.w) X.A (eval e X.env) (EP X pins σ Q) X.xe s
def PT (X : Cx) (e : Expr) (t : TT) : Prop :=
  ∀ (pins : List (Addr × Obj)) (s : Shared) (σ : St) (H : Hp) (Q : Bool → Hp → Prop), Inv X pins σ H s → t σ H Q → wpAny (model X.prog X.w) X.A (isTrue e X.env (eval e X.env)) (TP X pins σ Q) X.xe s
/-- a test whatever its 'whole' is (and, or) -/
def PW (X : Cx) (e : Expr) (t : TT) : Prop :=
  ∀ (whole : Sem Value) (pins : List (Addr × Obj)) (s : Shared) (σ : St) (H : Hp) (Q : Bool → Hp → Prop), Inv X pins σ H s → t σ H Q → wpAny (model X.prog X.w) X.A (isTrue e X.env whole) (TP X pins σ Q) X.xe s
theorem PW.pt {X : Cx} {e : Expr} {t : TT} (h : PW X e t) : PT X e t := h _
/-- an argument list (no star), from the left -/
def PA (X : Cx) (es : List Expr) (t : TA) : Prop :=
  ∀ (pos : Pos) (pins : List (Addr × Obj)) (s : Shared) (σ : St) (H : Hp) (Q : List V → Hp → Prop), Inv X pins σ H s → t σ H Q → wpAny (model X.prog X.w) X.A (spliced (backTo pos (starEach es X.env))) (AP X pins σ Q) X.xe s
def PS (X : Cx) (st : Stmt) (t : TS) : Prop :=
  ∀ (pins : List (Addr × Obj)) (s : Shared) (σ : St) (H : Hp) (D : Ends), Inv X pins σ H s → t D σ H → wpAny (model X.prog X.w) X.A (exec st X.env) (SP X pins D) X.xe s
def PSs (X : Cx) (st : List Stmt) (t : TS) : Prop :=
  ∀ (pins : List (Addr × Obj)) (s : Shared) (σ : St) (H : Hp) (D : Ends), Inv X pins σ H s → t D σ H → wpAny (model X.prog X.w) X.A (execs st X.env) (SP X pins D) X.xe s
/-- weaken the end -/
theorem thn {α : Type} {t : Sem α} {Q Q' : α → Shared → Prop} {M : Model} {A : Around} {E : Value → Shared → Prop} {s : Shared} (h : wpAny M A t Q E s) (hQ : ∀ a s, Q a s → Q' a s) : wpAny M A t Q' E s := wpAny_mono h hQ fun _ _ x => x
end L2

namespace L2
open PySem PySem.Spec PyProof.Rows
section
variable {X : Cx}

/-- two expressions in a row -/
theorem bin {a b : Expr} {ta tb : TE} (ha : PE X a ta) (hb : PE X b tb) {pins : List (Addr × Obj)} {s : Shared} {σ : St} {H : Hp} {R : V → V → Hp → Prop} (I : Inv X pins σ H s) (h : ta σ H fun x H1 => tb σ H1 fun y H2 => R x y H2)
    {α : Type} {Q : α → Shared → Prop} {f : Value → Value → Sem α}
    (hf : ∀ v u s2 x y H2, Inv X pins σ H2 s2 → RelV x v → RelV y u → R x y H2 → wpAny (model X.prog X.w) X.A (f v u) Q X.xe s2) :
    wpAny (model X.prog X.w) X.A (eval a X.env) (fun v s₁ => wpAny (model X.prog X.w) X.A (eval b X.env) (fun u s₂ => wpAny (model X.prog X.w) X.A (f v u) Q X.xe s₂) X.xe s₁) X.xe s := by
  refine thn (ha pins s σ H _ I h) fun v s1 ⟨x, H1, I1, r1, q1⟩ => ?_
  refine thn (hb pins s1 σ H1 _ I1 q1) fun u s2 ⟨y, H2, I2, r2, q2⟩ => ?_
  exact hf v u s2 x y H2 I2 r1 r2 q2

/-! ### names and constants -/
def tVar (i : Nat) : TE := fun σ H Q => ∃ v, σ[i]? = some (some v) ∧ Q v H
def tC (v : V) : TE := fun _ H Q => Q v H
theorem pe_var {i : Nat} {x : Str} {pos : Pos} (hN : X.N[i]? = some x) (hv : Vis X.env.scope x) (hd : (x == ("__debug__" : Str)) = false := by decide) (hcd : (x == ("__classdict__" : Str)) = false := by decide) : PE X (.Name x pos) (tVar i) := by
  intro pins s σ H Q I h
  obtain ⟨v, e, h⟩ := h
  obtain ⟨m, hn, hl⟩ := I.loc
  obtain ⟨u, r, l⟩ := hl i x v hN e hv
  have fin : EP X pins σ Q u s := ⟨v, H, I, r, h⟩
  rcases l with ⟨hk, hm⟩ | ⟨hk, c, hc, hcell⟩
  · exact wpAny_Name (wpAny_loadName_local I.ok.kind hk hn hm fin) hd
  · rcases hk with hk | hk
    · exact wpAny_Name (wpAny_loadName_cell I.ok.kind hk hc hcell fin) hd
    · exact wpAny_Name (wpAny_loadName_free I.ok.kind hk hc hcell fin hcd) hd
theorem pe_int {i j pos} : PE X (.Constant (.int i) j pos) (tC (.int i)) := fun _ _ _ H _ I h => wpAny_Constant_int ⟨.int i, H, I.tok _, ⟨_, rfl⟩, h⟩
theorem pe_bl {b j pos} : PE X (.Constant (.bool b) j pos) (tC (.bl b)) := fun _ _ _ H _ I h => Constant_bool ⟨.bl b, H, I, rfl, h⟩
theorem pe_non {j pos} : PE X (.Constant .none j pos) (tC .non) := fun _ _ _ H _ I h => Constant_none ⟨.non, H, I, rfl, h⟩
theorem pe_str {x j pos} : PE X (.Constant (.str x) j pos) (tC (.str x)) := fun _ _ _ H _ I h => Calls.Constant_str ⟨.str x, H, I.tok _, ⟨_, rfl⟩, h⟩

/-- a global name of the def -/
def Gl (X : Cx) (x : Str) : Prop := X.env.kindOf x = some .globalImplicit
theorem ld_glob {E : Value → Shared → Prop} {pins : List (Addr × Obj)} {s : Shared} {σ : St} {H : Hp} {x : Str} {u : Value} {pos : Pos} {Q : Value → Shared → Prop} (I : Inv X pins σ H s) (hg : Gl X x) (hm : X.mg x = some u) (h : Q u s)
    (hd : (x == ("__debug__" : Str)) = false := by decide) : wpAny (model X.prog X.w) X.A (eval (.Name x pos) X.env) Q E s :=
  Calls.Name_function_global I.ok.kind hg (Calls.loadGlobal_global (by rw [I.ok.glob]; exact I.mod.glob.keeps I.bk) hm h) hd
theorem ld_blt {E : Value → Shared → Prop} {pins : List (Addr × Obj)} {s : Shared} {σ : St} {H : Hp} {x : Str} {u : Value} {pos : Pos} {Q : Value → Shared → Prop} (I : Inv X pins σ H s) (hg : Gl X x) (hm : X.mg x = none) (hv : bootBuiltins x = some u) (h : Q u s)
    (hn : x ≠ "__name__" := by decide) (hd : (x == ("__debug__" : Str)) = false := by decide) : wpAny (model X.prog X.w) X.A (eval (.Name x pos) X.env) Q E s := by
  obtain ⟨mb, h1, h2⟩ := I.mod.blt
  exact Calls.Name_function_global I.ok.kind hg (Calls.loadGlobal_builtin (by rw [I.ok.glob]; exact I.mod.glob.keeps I.bk) hm (by rw [I.ok.blt]; exact h1.keeps I.bk) ((h2 x hn).trans hv) h) hd
/-- a module's constant, a class, a function, as a value -/
theorem pe_glob {x : Str} {v : V} {u : Value} {pos : Pos} (hg : Gl X x) (hm : X.mg x = some u) (r : RelV v u) (hd : (x == ("__debug__" : Str)) = false := by decide) : PE X (.Name x pos) (tC v) :=
  fun _ _ _ H _ I h => ld_glob I hg hm ⟨v, H, I, r, h⟩ hd
theorem pe_bltn {x : Str} {v : V} {u : Value} {pos : Pos} (hg : Gl X x) (hm : X.mg x = none) (hv : bootBuiltins x = some u) (r : RelV v u) (hn : x ≠ "__name__" := by decide) (hd : (x == ("__debug__" : Str)) = false := by decide) : PE X (.Name x pos) (tC v) :=
  fun _ _ _ H _ I h => ld_blt I hg hm hv ⟨v, H, I, r, h⟩ hn hd

/-! ### arithmetic -/
/-- two ints -/
def t2I (ta tb : TE) (k : Int → Int → Hp → Prop) : St → Hp → Prop := fun σ H => ta σ H fun x H1 => tb σ H1 fun y H2 => ∃ i j, x = .int i ∧ y = .int j ∧ k i j H2
def tAdd (ta tb : TE) : TE := fun σ H Q => t2I ta tb (fun i j H2 => Q (.int (i + j)) H2) σ H
def tSub (ta tb : TE) : TE := fun σ H Q => t2I ta tb (fun i j H2 => Q (.int (i - j)) H2) σ H
/-- the left factor below 2^64 -/
def tMul (ta tb : TE) : TE := fun σ H Q => t2I ta tb (fun i j H2 => (-(2 ^ 64) < i ∧ i < 2 ^ 64) ∧ Q (.int (i * j)) H2) σ H
variable {a b : Expr} {ta tb : TE} {pos : Pos}
/-! ### comparisons -/
def PC (X : Cx) (op : CmpOp) (a b : Expr) (t : TE) : Prop :=
  ∀ (pins : List (Addr × Obj)) (s : Shared) (σ : St) (H : Hp) (Q : VK), Inv X pins σ H s → t σ H Q →
    wpAny (model X.prog X.w) X.A (eval a X.env) (fun v s₁ => wpAny (model X.prog X.w) X.A (eval b X.env) (fun u s₂ => wpAny (model X.prog X.w) X.A (compareOp op v u) (EP X pins σ Q) X.xe s₂) X.xe s₁) X.xe s
def tCmp (p : Int → Int → Bool) (ta tb : TE) : TE := fun σ H Q => t2I ta tb (fun i j H2 => Q (.bl (p i j)) H2) σ H
abbrev tLt : TE → TE → TE := tCmp fun i j => decide (i < j)
abbrev tLe : TE → TE → TE := tCmp fun i j => decide (i ≤ j)
abbrev tGt : TE → TE → TE := tCmp fun i j => decide (j < i)
abbrev tGe : TE → TE → TE := tCmp fun i j => decide (j ≤ i)
abbrev tEqI : TE → TE → TE := tCmp fun i j => decide (i = j)
abbrev tNeI : TE → TE → TE := tCmp fun i j => !decide (i = j)
/-- is None -/
def tIsN (ta : TE) : TE := fun σ H Q => ta σ H fun x H1 => Q (.bl (decide (x = .non))) H1
def tNotN (ta : TE) : TE := fun σ H Q => ta σ H fun x H1 => Q (.bl (!decide (x = .non))) H1
/-- a comparison as a value, as a test -/
def tB (t : TE) : TT := fun σ H Q => t σ H fun x H1 => ∃ c, x = .bl c ∧ Q c H1
theorem pt_cmp {op : CmpOp} {t : TE} (h : PC X op a b t) (h1 : behindInMarks op b = false := by first | exact nobehind _ (by decide) (by decide) | rfl) : PT X (.Compare a [op] [b] pos) (tB t) := by
  intro pins s σ H Q I hw
  refine wpAny_isTrue_Compare1 (thn (h pins s σ H _ I hw) fun v s1 h1 => thn h1 fun u s2 h2 => thn h2 fun c s3 ⟨x, H1, I1, r1, q1⟩ => ?_) h1
  obtain ⟨d, rfl, q⟩ := q1
  cases r1
  exact wpAny_truthy_bool ⟨H1, I1, q⟩
/-- an expression whose value is a bool, as a test -/
theorem pt_val {e : Expr} {t : TE} (h : PE X e t) (he : ∀ whole, isTrue e X.env whole = (do let v ← whole; standAt e.pos; holding [v] (truthy v)) := by intro _; rfl) : PT X e (tB t) := by
  intro pins s σ H Q I hw
  refine isTrue_plain (thn (h pins s σ H _ I hw) fun v s1 ⟨x, H1, I1, r1, q1⟩ => ?_) (he _)
  obtain ⟨d, rfl, q⟩ := q1
  cases r1
  exact wpAny_truthy_bool ⟨H1, I1, q⟩

/-! ### and, or, not -/
variable {tA tB' : TT} {rest : List Expr}
def tAnd (t u : TT) : TT := fun σ H Q => t σ H fun c H1 => if c = true then u σ H1 Q else Q false H1
def tOr (t u : TT) : TT := fun σ H Q => t σ H fun c H1 => if c = true then Q true H1 else u σ H1 Q
def tNot (t : TT) : TT := fun σ H Q => t σ H fun c H1 => Q (!c) H1
theorem pw_and1 (ha : PT X a tA) : PW X (.BoolOp .And [a] pos) tA := by
  intro wh pins s σ H Q I h
  refine isTrue_and (thn (ha pins s σ H Q I h) fun c s1 e => ?_)
  cases c with
  | true => exact isTrue_and_nil e
  | false => exact e
theorem pw_or1 (ha : PT X a tA) : PW X (.BoolOp .Or [a] pos) tA := by
  intro wh pins s σ H Q I h
  refine isTrue_or (thn (ha pins s σ H Q I h) fun c s1 e => ?_)
  cases c with
  | false => exact isTrue_or_nil e
  | true => exact e
theorem pw_and (ha : PT X a tA) (hb : PW X (.BoolOp .And (b :: rest) pos) tB') : PW X (.BoolOp .And (a :: b :: rest) pos) (tAnd tA tB') := by
  intro wh pins s σ H Q I h
  refine isTrue_and (thn (ha pins s σ H _ I h) fun c s1 ⟨H1, I1, q1⟩ => ?_)
  cases c with
  | true => exact hb wh pins s1 σ H1 Q I1 q1
  | false => exact ⟨H1, I1, q1⟩
theorem pw_or (ha : PT X a tA) (hb : PW X (.BoolOp .Or (b :: rest) pos) tB') : PW X (.BoolOp .Or (a :: b :: rest) pos) (tOr tA tB') := by
  intro wh pins s σ H Q I h
  refine isTrue_or (thn (ha pins s σ H _ I h) fun c s1 ⟨H1, I1, q1⟩ => ?_)
  cases c with
  | true => exact ⟨H1, I1, q1⟩
  | false => exact hb wh pins s1 σ H1 Q I1 q1
theorem pt_not (ha : PT X a tA) : PT X (.UnaryOp .Not a pos) (tNot tA) := by
  intro pins s σ H Q I h
  exact isTrue_not (ha pins s σ H (fun c H1 => Q (!c) H1) I h)
/-- .. as values (bools) -/
def tAndV (ta tb : TE) : TE := fun σ H Q => ta σ H fun x H1 => ∃ c, x = .bl c ∧ if c = true then tb σ H1 Q else Q (.bl false) H1
def tOrV (ta tb : TE) : TE := fun σ H Q => ta σ H fun x H1 => ∃ c, x = .bl c ∧ if c = true then Q (.bl true) H1 else tb σ H1 Q
def tNotV (ta : TE) : TE := fun σ H Q => ta σ H fun x H1 => ∃ c, x = .bl c ∧ Q (.bl (!c)) H1
theorem pe_one {op} {t : TE} (h : PE X a t) : PE X (.BoolOp op [a] pos) t := fun pins s σ H Q I hw => BoolOp_one (h pins s σ H Q I hw)
theorem pe_and (ha : PE X a ta) (hb : PE X (.BoolOp .And (b :: rest) pos) tb) : PE X (.BoolOp .And (a :: b :: rest) pos) (tAndV ta tb) := by
  intro pins s σ H Q I h
  refine BoolOp_and (thn (ha pins s σ H _ I h) fun v s1 ⟨x, H1, I1, r1, q1⟩ => ?_)
  obtain ⟨c, rfl, q1⟩ := q1
  cases r1
  refine wpAny_truthy_bool ?_
  cases c with
  | true => exact hb pins s1 σ H1 Q I1 q1
  | false => exact ⟨.bl false, H1, I1, rfl, q1⟩
theorem pe_not (ha : PE X a ta) : PE X (.UnaryOp .Not a pos) (tNotV ta) := by
  intro pins s σ H Q I h
  refine UnaryOp_ (thn (ha pins s σ H _ I h) fun v s1 ⟨x, H1, I1, r1, q1⟩ => ?_)
  obtain ⟨c, rfl, q1⟩ := q1
  cases r1
  exact not_of (wpAny_truthy_bool ⟨.bl (!c), H1, I1, rfl, q1⟩)
/-- a if t else b -/
def tIf (t : TT) (ta tb : TE) : TE := fun σ H Q => t σ H fun c H1 => if c = true then ta σ H1 Q else tb σ H1 Q
theorem pe_ifExp {c : Expr} (hc : PT X c tA) (ha : PE X a ta) (hb : PE X b tb) : PE X (.IfExp c a b pos) (tIf tA ta tb) := by
  intro pins s σ H Q I h
  refine wpAny_IfExp (thn (hc pins s σ H _ I h) fun d s1 ⟨H1, I1, q1⟩ => ?_)
  cases d with
  | true => exact ha pins s1 σ H1 Q I1 q1
  | false => exact hb pins s1 σ H1 Q I1 q1
end
end L2

namespace L2
open PySem PySem.Spec PyProof.Rows

/-! ### a list, a tuple that is read: tracked, frozen, or an object of the module -/
def SqL (K : PySem.W.Frag) (H : Hp) (a : Addr) (xs : List V) : Prop :=
  Rd H a (.lst xs) ∨
    ∃ (o : Obj) (its : Array Value) (n : Nat), K.lookup a = some o ∧ o.cls = .type "list" ∧ o.dict = none ∧ o.data = .seq its n ∧ its.size ≤ sizeLine ∧ Vals xs its.toList
def SqT (K : PySem.W.Frag) (H : Hp) (a : Addr) (xs : List V) : Prop :=
  Rd H a (.tup xs) ∨
    ∃ (o : Obj) (its : Array Value) (n : Nat), K.lookup a = some o ∧ o.cls = .type "tuple" ∧ o.data = .seq its n ∧ its.size ≤ sizeLine ∧ Vals xs its.toList
def absV : Value → Option V
  | .none => some .non
  | .bool b => some (.bl b)
  | .int i _ => some (.int i)
  | .str x _ => some (.str x)
  | .bytes b _ => some (.byt b)
  | .float b _ => some (.flt b)
  | .ref a => some (.ref a)
  | .type n => some (.ty n)
  | _ => none
theorem RelV.abs {x : V} {u : Value} (r : RelV x u) : absV u = some x := by
  cases x with
  | non => cases r; rfl
  | bl _ => cases r; rfl
  | int _ => obtain ⟨t, rfl⟩ := r; rfl
  | str _ => obtain ⟨t, rfl⟩ := r; rfl
  | byt _ => obtain ⟨t, rfl⟩ := r; rfl
  | flt _ => obtain ⟨t, rfl⟩ := r; rfl
  | ref _ => cases r; rfl
  | ty _ => cases r; rfl
theorem RelV.inj {x y : V} {u : Value} (r : RelV x u) (q : RelV y u) : x = y := Option.some.inj (r.abs.symm.trans q.abs)
theorem Vals.inj : ∀ {xs ys : List V} {us : List Value}, Vals xs us → Vals ys us → xs = ys
  | _, _, _, .nil, .nil => rfl
  | _, _, _, .cons r t, .cons r' t' => by rw [r.inj r', Vals.inj t t']
section
variable {X : Cx} {pins : List (Addr × Obj)} {σ : St} {H : Hp} {s : Shared} {a : Addr} {xs ys : List V}
theorem SqL.of {K : PySem.W.Frag} (h : H a = some (.lst xs)) : SqL K H a xs := .inl (.inl h)
theorem SqT.of {K : PySem.W.Frag} (h : H a = some (.tup xs)) : SqT K H a xs := .inl (.inl h)
theorem Inv.list (I : Inv X pins σ H s) (h : SqL X.K H a xs) : ∃ its : List Value, Vals xs its ∧ PlainL s.heap a its.toArray ∧ xs.length ≤ sizeLine := by
  rcases h with h | ⟨o, its, n, hk, hc, hd, hs, hz, r⟩
  · obtain ⟨z, its, n, r, e⟩ := h.ok I.hok
    exact ⟨its, r, ⟨_, n, e, rfl, rfl, rfl⟩, z⟩
  · refine ⟨its.toList, r, ⟨o, n, I.kIn a o hk, hc, hd, by simpa using hs⟩, ?_⟩
    have e := r.length
    simp only [Array.length_toList] at e
    omega
theorem Inv.tuple (I : Inv X pins σ H s) (h : SqT X.K H a xs) : ∃ its : List Value, Vals xs its ∧ IsTup s.heap a its.toArray ∧ xs.length ≤ sizeLine := by
  rcases h with h | ⟨o, its, n, hk, hc, hs, hz, r⟩
  · obtain ⟨z, its, r, p⟩ := h.ok I.hok
    exact ⟨its, r, p, z⟩
  · refine ⟨its.toList, r, ⟨o, I.kIn a o hk, hc, n, by simpa using hs⟩, ?_⟩
    have e := r.length
    simp only [Array.length_toList] at e
    omega
theorem Inv.list_inj (I : Inv X pins σ H s) (h : SqL X.K H a xs) (h' : SqL X.K H a ys) : xs = ys := by
  obtain ⟨its, r, ⟨o, n, e, _, _, d⟩, _⟩ := I.list h
  obtain ⟨its', r', ⟨o', n', e', _, _, d'⟩, _⟩ := I.list h'
  rw [e] at e'; cases e'
  rw [d] at d'
  injection d' with d1 _
  have : its = its' := by simpa using congrArg Array.toList d1
  subst this
  exact r.inj r'
theorem Inv.tuple_inj (I : Inv X pins σ H s) (h : SqT X.K H a xs) (h' : SqT X.K H a ys) : xs = ys := by
  obtain ⟨its, r, ⟨o, e, _, n, d⟩, _⟩ := I.tuple h
  obtain ⟨its', r', ⟨o', e', _, n', d'⟩, _⟩ := I.tuple h'
  rw [e] at e'; cases e'
  rw [d] at d'
  injection d' with d1 _
  have : its = its' := by simpa using congrArg Array.toList d1
  subst this
  exact r.inj r'
end

/-! ### another wish about exceptions -/
abbrev Cx.wish (X : Cx) (E : Value → Shared → Prop) : Cx := { X with xe := E }
/-- no exception leaves -/
abbrev Cx.nox (X : Cx) : Cx := X.wish fun _ _ => False
theorem Cx.Ok.wish {X : Cx} (ok : X.Ok) (E : Value → Shared → Prop) : (X.wish E).Ok :=
  ⟨ok.mod, ok.kind, ok.glob, ok.blt, ok.above, ok.inj, ok.has, ok.cab, ok.hd, ok.frames, ok.stk, ok.exf, ok.bs, ok.bsz, ok.noex, ok.exfs, ok.funs, ok.frf⟩
theorem Cx.Ok.unwish {X : Cx} {E : Value → Shared → Prop} (ok : (X.wish E).Ok) : X.Ok :=
  ⟨ok.mod, ok.kind, ok.glob, ok.blt, ok.above, ok.inj, ok.has, ok.cab, ok.hd, ok.frames, ok.stk, ok.exf, ok.bs, ok.bsz, ok.noex, ok.exfs, ok.funs, ok.frf⟩
section
variable {X : Cx} {pins : List (Addr × Obj)} {σ : St} {H : Hp} {s : Shared} {E : Value → Shared → Prop}
theorem Inv.wish (I : Inv X pins σ H s) (E : Value → Shared → Prop) : Inv (X.wish E) pins σ H s := ⟨I.ok.wish E, I.os, I.bare, I.base, I.loc, I.cell, I.free, I.freeC, I.pin, I.hok, I.len⟩
theorem Inv.unwish (I : Inv (X.wish E) pins σ H s) : Inv X pins σ H s := ⟨I.ok.unwish, I.os, I.bare, I.base, I.loc, I.cell, I.free, I.freeC, I.pin, I.hok, I.len⟩
theorem SP.unwish {D : Ends} {f : Flow} {s' : Shared} (h : SP (X.wish E) pins D f s') : SP X pins D f s' := by
  cases f with
  | next => obtain ⟨σ', H', I, q⟩ := h; exact ⟨σ', H', I.unwish, q⟩
  | brk => obtain ⟨σ', H', I, q⟩ := h; exact ⟨σ', H', I.unwish, q⟩
  | cont => obtain ⟨σ', H', I, q⟩ := h; exact ⟨σ', H', I.unwish, q⟩
  | ret u => obtain ⟨v, σ', H', I, r, q⟩ := h; exact ⟨v, σ', H', I.unwish, r, q⟩
theorem PSs.nox {st : List Stmt} {t : TS} (h : PSs X.nox st t) : PSs X st t := fun pins s σ H D I hw =>
  wpAny_mono (h pins s σ H D (I.wish _) hw) (fun _ _ q => q.unwish) fun _ _ z => False.elim z
end

/-! ### blocks and small statements -/
section
variable {X : Cx} {st : Stmt} {rest : List Stmt} {t u : TS} {e : Expr} {te : TE} {pos : Pos}
def tNext : TS := fun D σ H => D.nx σ H
def tSeq (t u : TS) : TS := fun D σ H => t { D with nx := u D } σ H
theorem pss_nil : PSs X [] tNext := fun _ _ σ H _ I h => wpAny_execs_nil ⟨σ, H, I, h⟩
theorem pss_cons (h1 : PS X st t) (h2 : PSs X rest u) : PSs X (st :: rest) (tSeq t u) := by
  intro pins s σ H D I h
  refine wpAny_execs_cons (thn (h1 pins s σ H { D with nx := u D } I h) fun f s1 q => ?_)
  cases f with
  | next =>
    obtain ⟨σ', H', I', q⟩ := q
    exact h2 pins s1 σ' H' D I' q
  | ret v => exact q
  | brk => exact q
  | cont => exact q
theorem pss_one (h1 : PS X st t) : PSs X [st] t := by
  intro pins s σ H D I h
  refine wpAny_execs_cons (thn (h1 pins s σ H D I h) fun f s1 q => ?_)
  cases f with
  | next => exact wpAny_execs_nil q
  | ret v => exact q
  | brk => exact q
  | cont => exact q
def tBreak : TS := fun D σ H => D.bk σ H
def tCont : TS := fun D σ H => D.ct σ H
/-- in a def's body nothing is shown -/
theorem Inv.quiet {pins : List (Addr × Obj)} {σ : St} {H : Hp} {s : Shared} (I : Inv X pins σ H s) : interactive X.env = false := by simp [interactive, I.ok.kind]
/-- an expression whose value is dropped -/
def tDrop (te : TE) : TS := fun D σ H => te σ H fun _ H1 => D.nx σ H1
theorem ps_expr (he : PE X e te) (hs : swapsWith e none pos.line X.env = pure false := by rfl) : PS X (.Expr e pos) (tDrop te) := by
  intro pins s σ H D I h
  exact wpAny_Expr_any (thn (he pins s σ H _ I h) fun v s1 ⟨x, H1, I1, r1, q1⟩ => ⟨σ, H1, I1, q1⟩) I.quiet hs
def tRet (te : TE) : TS := fun D σ H => te σ H D.rt
theorem ps_ret (he : PE X e te) : PS X (.Return (some e) pos) (tRet te) := by
  intro pins s σ H D I h
  exact wpAny_Return_some (thn (he pins s σ H _ I h) fun v s1 ⟨x, H1, I1, r1, q1⟩ => ⟨x, σ, H1, I1, r1, q1⟩)
def tRetN : TS := fun D _ H => D.rt .non H
def tIfS (c : TT) (t u : TS) : TS := fun D σ H => c σ H fun b H1 => if b = true then t D σ H1 else u D σ H1
theorem ps_if {c : Expr} {a b : List Stmt} {tc : TT} (hc : PT X c tc) (ha : PSs X a t) (hb : PSs X b u) : PS X (.If c a b pos) (tIfS tc t u) := by
  intro pins s σ H D I h
  refine wpAny_If (thn (hc pins s σ H _ I h) fun d s1 ⟨H1, I1, q1⟩ => ?_)
  cases d with
  | true => exact ha pins s1 σ H1 D I1 q1
  | false => exact hb pins s1 σ H1 D I1 q1
/-- code that the proof never comes to -/
def tNever : TS := fun _ _ _ => False
end

/-! ### targets -/
abbrev TG := V → St → Hp → (St → Hp → Prop) → Prop
abbrev TGs := List V → St → Hp → (St → Hp → Prop) → Prop
def PG (X : Cx) (target : Expr) (t : TG) : Prop :=
  ∀ (pins : List (Addr × Obj)) (s : Shared) (σ : St) (H : Hp) (v : V) (u : Value) (Q : St → Hp → Prop), Inv X pins σ H s → RelV v u → t v σ H Q →
    wpAny (model X.prog X.w) X.A (assign target X.env u) (fun _ s' => ∃ σ' H', Inv X pins σ' H' s' ∧ Q σ' H') X.xe s
/-- several targets, one after another -/
def PGs (X : Cx) (ts : List Expr) (t : TGs) : Prop :=
  ∀ (pins : List (Addr × Obj)) (s : Shared) (σ : St) (H : Hp) (vs : List V) (us : List Value) (Q : St → Hp → Prop), Inv X pins σ H s → Vals vs us → t vs σ H Q →
    wpAny (model X.prog X.w) X.A (assignInOrder ((assignEach ts X.env).map (·.2)) us) (fun _ s' => ∃ σ' H', Inv X pins σ' H' s' ∧ Q σ' H') X.xe s
/-- o[i] = v, by values -/
abbrev TSet := V → V → V → Hp → (Hp → Prop) → Prop
def PSet (X : Cx) (t : TSet) : Prop :=
  ∀ (pins : List (Addr × Obj)) (s : Shared) (σ : St) (H : Hp) (o i v : V) (ov iv u : Value) (Q : Hp → Prop), Inv X pins σ H s → RelV o ov → RelV i iv → RelV v u → t o i v H Q →
    wpAny (model X.prog X.w) X.A (setItem ov iv u) (fun _ s' => ∃ H', Inv X pins σ H' s' ∧ Q H') X.xe s
/-- a op= b, by values -/
abbrev TIp := V → V → Hp → VK → Prop
def PIp (X : Cx) (op : Operator) (t : TIp) : Prop :=
  ∀ (pins : List (Addr × Obj)) (s : Shared) (σ : St) (H : Hp) (x y : V) (v u : Value) (Q : VK), Inv X pins σ H s → RelV x v → RelV y u → t x y H Q →
    wpAny (model X.prog X.w) X.A (inplaceOp op v u) (EP X pins σ Q) X.xe s
section
variable {X : Cx} {pos : Pos}
def gName (i : Nat) : TG := fun v σ H Q => Q (σ.set i (some v)) H
theorem pg_name {i : Nat} {x : Str} (hN : X.N.Nodup) (hi : X.N[i]? = some x) (hx : Loc X.env.scope x) (hf : X.fn x = true ∨ X.env.scope.names.lookup x = some .local := by first | exact .inl rfl | exact .inr rfl | assumption) : PG X (.Name x pos) (gName i) := by
  intro pins s σ H v u Q I r h
  exact wpAny_assign_Name (store_ok I hN hi hx r (fun s' I' => ⟨_, H, I', h⟩) hf)
def gNil : TGs := fun vs σ H Q => vs = [] ∧ Q σ H
def gCons (t : TG) (u : TGs) : TGs := fun vs σ H Q => ∃ v r, vs = v :: r ∧ t v σ H fun σ' H' => u r σ' H' Q
theorem pgs_nil : PGs X [] gNil := by
  intro pins s σ H vs us Q I r h
  obtain ⟨e, h⟩ := h
  subst e
  cases r
  exact assignInOrder_nil ⟨σ, H, I, h⟩
theorem pgs_cons {e : Expr} {es : List Expr} {t : TG} {u : TGs} (h1 : PG X e t) (h2 : PGs X es u)
    (hs : (assignEach (e :: es) X.env).map (·.2) = assign e X.env :: (assignEach es X.env).map (·.2) := by rfl) : PGs X (e :: es) (gCons t u) := by
  intro pins s σ H vs us Q I r h
  obtain ⟨v, vr, e1, h⟩ := h
  subst e1
  cases r with
  | cons r rr =>
    rw [hs]
    refine assignInOrder_cons (thn (h1 pins s σ H _ _ _ I r h) fun _ s1 ⟨σ1, H1, I1, q1⟩ => ?_)
    exact h2 pins s1 σ1 H1 _ _ Q I1 rr q1
/-- (a, b, ..) = a tuple of that length -/
def gTup (K : PySem.W.Frag) (n : Nat) (t : TGs) : TG := fun v σ H Q => ∃ a xs, v = .ref a ∧ SqT K H a xs ∧ xs.length = n ∧ t xs σ H Q
theorem pg_tup {es : List Expr} {k : Nat} {t : TGs} {n : Nat} (hc : X.calm = true) (h : PGs X es t)
    (hn : (assignEach es X.env).length = n := by rfl) (hst : (assignEach es X.env).findIdx? (·.1) = none := by rfl) : PG X (.Tuple es k pos) (gTup X.K n t) := by
  intro pins s σ H v u Q I r hw
  obtain ⟨a, xs, e1, hq, hl, hw⟩ := hw
  subst e1
  cases r
  obtain ⟨its, rv, ht, hz⟩ := I.tuple hq
  refine assign_Tuple_tuple (I.ok.hd hc) ht (by simp [hn, ← hl, rv.length]) hst fun h' hx => ?_
  have I1 : Inv X pins σ H { s with heap := h' } := I.kept (t' := s.toks) fun b o e => hx b o (Nat.ne_of_lt (Heap.lt_size e)) e
  exact h pins _ σ H xs _ Q I1 (by simpa using rv) hw
/-- o[i] = .. -/
def gSub (to ti : TE) (t : TSet) : TG := fun v σ H Q => to σ H fun o H1 => ti σ H1 fun i H2 => t o i v H2 fun H3 => Q σ H3
theorem pg_sub {o i : Expr} {to ti : TE} {t : TSet} (ho : PE X o to) (hi : PE X i ti) (hs : PSet X t)
    (ha : ∀ v, assign (.Subscript o i pos) X.env v = (do
      let ov ← holding [v] (eval o X.env)
      let iv ← holding [v, ov] (eval i X.env)
      standAt pos
      holding [v, ov, iv] (setItem ov iv v)
      release [v, ov, iv] []) := by intro _; rfl) : PG X (.Subscript o i pos) (gSub to ti t) := by
  intro pins s σ H v u Q I r h
  rw [ha]
  refine wpAny_bind (wpAny_holding (thn (ho pins s σ H _ I h) fun ov s1 ⟨x, H1, I1, r1, q1⟩ => ?_))
  refine wpAny_bind (wpAny_holding (thn (hi pins s1 σ H1 _ I1 q1) fun iv s2 ⟨y, H2, I2, r2, q2⟩ => ?_))
  refine wpAny_bind (wpAny_standAt (wpAny_bind (wpAny_holding (thn (hs pins s2 σ H2 x y v ov iv u _ I2 r1 r2 r q2) fun _ s3 ⟨H3, I3, q3⟩ => ?_))))
  exact wpAny_release ⟨σ, H3, I3, q3⟩
/-- target = value -/
def tAsg (te : TE) (g : TG) : TS := fun D σ H => te σ H fun x H1 => g x σ H1 D.nx
theorem ps_asg {tg e : Expr} {te : TE} {g : TG} (he : PE X e te) (hg : PG X tg g) (hs : swapsWithSole [tg] e pos.line X.env = pure false := by rfl) (hw : swappedStores [tg] e X.env = pure none := by rfl)
    (h1 : (assignEach [tg] X.env).map (·.2) = [assign tg X.env] := by rfl) : PS X (.Assign [tg] e pos) (tAsg te g) := by
  intro pins s σ H D I h
  refine wpAny_Assign_stores (thn (he pins s σ H _ I h) fun v s1 ⟨x, H1, I1, r1, q1⟩ => ?_) hs hw
  rw [h1]
  exact thn (hg pins s1 σ H1 x v _ I1 r1 q1) fun _ s2 q => q
/-- name = value -/
theorem ps_set {i : Nat} {x : Str} {e : Expr} {te : TE} {pos' : Pos} (hN : X.N.Nodup) (hi : X.N[i]? = some x) (hx : Loc X.env.scope x) (he : PE X e te) (hs : swapsWith e (some (.Name x pos')) pos.line X.env = pure false := by rfl) (hf : X.fn x = true ∨ X.env.scope.names.lookup x = some .local := by first | exact .inl rfl | exact .inr rfl | assumption) :
    PS X (.Assign [.Name x pos'] e pos) (tAsg te (gName i)) := by
  intro pins s σ H D I h
  refine wpAny_Assign_Name (thn (he pins s σ H _ I h) fun v s1 ⟨y, H1, I1, r1, q1⟩ => ?_) hs
  exact store_ok I1 hN hi hx r1 (fun s2 I2 => ⟨_, H1, I2, q1⟩) hf
/-- a, b = x, y with plain local names: stored from the right; the pair itself is not tracked (the opening rows as in PyProof/Rows/TupAssign.lean:23) -/
def tPar (i j : Nat) (ta : TA) : TS := fun D σ H => ta σ H fun vs H1 => ∃ v w, vs = [v, w] ∧ D.nx ((σ.set i (some v)).set j (some w)) H1
/-- name op= e -/
def tAug (i : Nat) (te : TE) (ti : TIp) : TS := fun D σ H => ∃ x, σ[i]? = some (some x) ∧ te σ H fun y H1 => ti x y H1 fun z H2 => D.nx (σ.set i (some z)) H2
theorem ps_aug {i : Nat} {x : Str} {e : Expr} {te : TE} {op : Operator} {ti : TIp} {pos' : Pos} (hN : X.N.Nodup) (hi : X.N[i]? = some x) (hx : Loc X.env.scope x) (he : PE X e te) (ho : PIp X op ti) (hf : X.fn x = true ∨ X.env.scope.names.lookup x = some .local := by first | exact .inl rfl | exact .inr rfl | assumption) :
    PS X (.AugAssign (.Name x pos') op e pos) (tAug i te ti) := by
  intro pins s σ H D I h
  obtain ⟨v, e1, h⟩ := h
  obtain ⟨m, hn, hl⟩ := I.loc
  have vis : Vis X.env.scope x := by rcases hx with k | k; exact .inl k; exact .inr (.inl k)
  obtain ⟨u, r, l⟩ := hl i x v hi e1 vis
  refine wpAny_AugAssign_Name ?_
  have go : wpAny (model X.prog X.w) X.A (eval e X.env) (fun w s₂ => wpAny (model X.prog X.w) X.A (inplaceOp op u w) (fun r s₃ => wpAny (model X.prog X.w) X.A (storeName X.env x r) (fun _ => SP X pins D .next) X.xe s₃) X.xe s₂) X.xe s := by
    refine thn (he pins s σ H _ I h) fun w s1 ⟨y, H1, I1, r1, q1⟩ => ?_
    refine thn (ho pins s1 σ H1 v y u w _ I1 r r1 q1) fun z s2 ⟨zv, H2, I2, r2, q2⟩ => ?_
    exact store_ok I2 hN hi hx r2 (fun s3 I3 => ⟨_, H2, I3, q2⟩) hf
  rcases l with ⟨hk, hm⟩ | ⟨hk, c, hc, hcell⟩
  · exact wpAny_loadName_local I.ok.kind hk hn hm go
  · rcases hk with hk | hk
    · exact wpAny_loadName_cell I.ok.kind hk hc hcell go
    · rcases hx with k | k
      · have : X.env.scope.names.lookup x = some .free := hk
        rw [k] at this; cases this
      · have : X.env.scope.names.lookup x = some .free := hk
        rw [k] at this; cases this
/-- o[i] op= e -/
def tAugS (to ti te : TE) (tget : V → V → Hp → VK → Prop) (tip : TIp) (tset : TSet) : TS := fun D σ H => to σ H fun o H1 => ti σ H1 fun i H2 => tget o i H2 fun x H3 => te σ H3 fun y H4 => tip x y H4 fun z H5 => tset o i z H5 fun H6 => D.nx σ H6
/-- o[i], by values -/
def PGet (X : Cx) (t : V → V → Hp → VK → Prop) : Prop :=
  ∀ (pins : List (Addr × Obj)) (s : Shared) (σ : St) (H : Hp) (o i : V) (ov iv : Value) (Q : VK), Inv X pins σ H s → RelV o ov → RelV i iv → t o i H Q →
    wpAny (model X.prog X.w) X.A (getItem ov iv) (EP X pins σ Q) X.xe s
/-- ints -/
def ipI (f : Int → Int → Int) : TIp := fun x y H Q => ∃ i j, x = .int i ∧ y = .int j ∧ Q (.int (f i j)) H
theorem ip_add : PIp X .Add (ipI fun i j => i + j) := by
  intro pins s σ H x y v u Q I r1 r2 h
  obtain ⟨i, j, e1, e2, q⟩ := h
  subst e1; subst e2
  obtain ⟨t, rfl⟩ := r1
  obtain ⟨t', rfl⟩ := r2
  exact iadd_int ⟨.int _, H, I.tok _, ⟨_, rfl⟩, q⟩
end

/-! ### while -/
section
variable {X : Cx} {pos : Pos}
/-- the invariant W with its measure -/
def tWhile (c : TT) (tb : TS) : TS := fun D σ H => ∃ W : Nat → St → Hp → Prop, (∃ m, W m σ H) ∧ ∀ m σ H, W m σ H →
  c σ H fun b H1 => if b = true then ∃ N : St → Hp → Prop, (∀ σ' H', N σ' H' → ∃ m', m' < m ∧ W m' σ' H') ∧ tb { D with nx := N, ct := N, bk := D.nx } σ H1 else D.nx σ H1
theorem ps_while {c : Expr} {body : List Stmt} {tc : TT} {tb : TS} (hp : PassesOwn (model X.prog X.w) X.A X.env X.xe) (hc : PT X c tc) (hb : PSs X body tb) : PS X (.While c body [] pos) (tWhile tc tb) := by
  intro pins s σ H D I h
  obtain ⟨W, ⟨m0, w0⟩, turn⟩ := h
  refine wpAny_While (codeAny_whileLoop (fun n s' => ∃ σ' H', Inv X pins σ' H' s' ∧ W n σ' H') ?_ m0 ⟨σ, H, I, w0⟩)
  rintro n s1 ⟨σ1, H1, I1, w1⟩
  refine wpAny_passesOwn hp (thn (hc pins s1 σ1 H1 _ I1 (turn n σ1 H1 w1)) fun b s2 ⟨H2, I2, q2⟩ => ?_)
  cases b with
  | true =>
    obtain ⟨N, hN, q2⟩ := q2
    rw [if_pos rfl]
    refine wpAny_passesOwn hp (thn (hb pins s2 σ1 H2 _ I2 q2) fun f s3 q3 => ?_)
    cases f with
    | next =>
      obtain ⟨σ3, H3, I3, n3⟩ := q3
      obtain ⟨m', hm, w3⟩ := hN σ3 H3 n3
      exact ⟨m', hm, σ3, H3, I3, w3⟩
    | cont =>
      obtain ⟨σ3, H3, I3, n3⟩ := q3
      obtain ⟨m', hm, w3⟩ := hN σ3 H3 n3
      exact ⟨m', hm, σ3, H3, I3, w3⟩
    | brk => exact q3
    | ret v => exact q3
  | false =>
    rw [if_neg Bool.false_ne_true]
    exact wpAny_execs_nil ⟨σ1, H2, I2, q2⟩
end

/-! ### what a loop or a comprehension walks -/
/-- at turn i: it yields x (the heap may grow), or it stops -/
structure It where
  go : Nat → Hp → Prop
  yld : Nat → Hp → V → Hp → Prop
  stop : Nat → Hp → Prop
/-- the iterator's own objects may turn: they are not the frame's, not pinned, younger than the entry (or a comprehension's own) -/
def FpOk (X : Cx) (pins : List (Addr × Obj)) (H : Hp) (b : Addr) : Prop :=
  H b = none ∧ b ≠ X.env.locals ∧ b ∉ X.fs ∧ (b ∈ X.ex ∨ X.s₀.heap.objs.size ≤ b) ∧ (∀ x c, X.env.cells.lookup x = some c → c ≠ b) ∧ ∀ p ∈ X.pn ++ pins, p.1 ≠ b
theorem Inv.fpOk {X : Cx} {pins : List (Addr × Obj)} {σ : St} {H H' : Hp} {s : Shared} {b : Addr} (I : Inv X pins σ H s) (hb : s.heap.objs.size ≤ b) (hn : H' b = none) : FpOk X pins H' b := by
  refine ⟨hn, Nat.ne_of_gt (Nat.lt_of_lt_of_le I.lt hb), I.nofs hb, .inr (Nat.le_trans I.sz hb), fun x c e z => ?_, fun p hp z => ?_⟩
  · obtain ⟨v, q⟩ := I.cell x c e
    exact absurd (Nat.lt_of_lt_of_le q.lt (by rw [z]; exact hb)) (Nat.lt_irrefl _)
  · exact absurd (Nat.lt_of_lt_of_le (Heap.lt_size (I.pin p hp).1) (by rw [z]; exact hb)) (Nat.lt_irrefl _)
structure Turn (P : Program) (w : World) (K : PySem.W.Frag) (tg : Expr) (J : It) (fp : List Addr) (it : Addr) (tn : Nat → Heap → Prop) : Prop where
  mem : it ∈ fp
  obj : ∀ i h, tn i h → ∀ b ∈ fp, ∃ o, h.get? b = some o ∧ ∀ v, o.data ≠ .cell v
  keep : ∀ i h h', tn i h → (∀ b ∈ fp, ∀ o, h.get? b = some o → h'.get? b = some o) → tn i h'
  item : ∀ (X : Cx), X.prog = P → X.w = w → X.K = K → X.calm = true → ∀ (i : Nat) (pins : List (Addr × Obj)) (s : Shared) (σ : St) (H : Hp) (E : Value → Shared → Prop), Inv X pins σ H s → (∀ b ∈ fp, FpOk X pins H b) → tn i s.heap → J.go i H →
    wpAny (model P w) X.A (pyNext (.ref it)) (fun r s1 => ∃ u, r = some u ∧
      wpAny (model P w) X.A (letOwnedTupleGo tg (.ref it) u) (fun _ s2 => ∃ x H', Inv X pins σ H' s2 ∧ RelV x u ∧ J.yld i H x H' ∧ tn (i + 1) s2.heap ∧ ∀ b ∈ fp, H' b = none) E s1) E s
  done : ∀ (X : Cx), X.prog = P → X.w = w → X.K = K → X.calm = true → ∀ (i : Nat) (pins : List (Addr × Obj)) (s : Shared) (σ : St) (H : Hp) (E : Value → Shared → Prop), Inv X pins σ H s → (∀ b ∈ fp, FpOk X pins H b) → tn i s.heap → J.stop i H →
    wpAny (model P w) X.A (pyNext (.ref it)) (fun r s1 => r = none ∧ Inv X pins σ H s1) E s
  self : ∀ (A : Around) (i : Nat) (s : Shared) (Q : Value → Shared → Prop) (E : Value → Shared → Prop), tn i s.heap → Q (.ref it) s → wpAny (model P w) A (pyIter (.ref it)) Q E s
abbrev TI := St → Hp → (It → Hp → Prop) → Prop
/-- an iterator has come -/
def PIE (X : Cx) (pins : List (Addr × Obj)) (σ : St) (tg : Expr) (R : It → Hp → Prop) (itv : Value) (s2 : Shared) : Prop :=
  ∃ (it : Addr) (fp : List Addr) (tn : Nat → Heap → Prop) (J : It) (H' : Hp), itv = .ref it ∧ Inv X pins σ H' s2 ∧ Turn X.prog X.w X.K tg J fp it tn ∧ tn 0 s2.heap ∧ (∀ b ∈ fp, FpOk X pins H' b) ∧ R J H'
def PI (X : Cx) (tg iter : Expr) (wi : TI) : Prop :=
  ∀ (pins : List (Addr × Obj)) (s : Shared) (σ : St) (H : Hp) (R : It → Hp → Prop), Inv X pins σ H s → wi σ H R →
    wpAny (model X.prog X.w) X.A (eval iter X.env) (fun v s1 => wpAny (model X.prog X.w) X.A (pyIter v) (PIE X pins σ tg R) X.xe s1) X.xe s

/-- the step ahead of the store is nothing for an iterator that keeps no tuple -/
theorem go_of {M : Model} {A : Around} {E : Value → Shared → Prop} {s : Shared} {tg : Expr} {it : Addr} {u : Value} {o : Obj} {n : String} {vs : Array Value} {Q : Unit → Shared → Prop} (ho : s.heap.get? it = some o) (hc : o.cls = .type n) (hd : o.data = .fields vs)
    (hn : ["enumerate", "zip", "dict_itemiterator", "dict_reverseitemiterator", "odict_iterator", "itertools.zip_longest", "itertools.pairwise"].contains n = false) (hQ : Q () s) : wpAny M A (letOwnedTupleGo tg (.ref it) u) Q E s := by
  unfold letOwnedTupleGo
  cases tg <;> first
    | exact wpAny_pure hQ
    | (cases u <;> first
        | exact wpAny_pure hQ
        | (refine wpAny_bind (wpAny_load ho ?_)
           rw [hc, hd]
           show wpAny M A (if (["enumerate", "zip", "dict_itemiterator", "dict_reverseitemiterator", "odict_iterator", "itertools.zip_longest", "itertools.pairwise"].contains n && vs[0]? == some (rawInt _)) = true then _ else _) Q E s
           rw [if_neg (by intro h; rw [hn, Bool.false_and] at h; cases h)]
           exact wpAny_pure hQ))

/-- the list at a, as it stands at each turn (a loop may append to it) -/
def Itl (K : PySem.W.Frag) (a : Addr) : It :=
  ⟨fun i H => ∃ xs x, SqL K H a xs ∧ xs[i]? = some x, fun i H x H' => H' = H ∧ ∀ xs, SqL K H a xs → xs[i]? = some x, fun i H => ∃ xs, SqL K H a xs ∧ xs.length ≤ i⟩
def Itt (K : PySem.W.Frag) (a : Addr) : It :=
  ⟨fun i H => ∃ xs x, SqT K H a xs ∧ xs[i]? = some x, fun i H x H' => H' = H ∧ ∀ xs, SqT K H a xs → xs[i]? = some x, fun i H => ∃ xs, SqT K H a xs ∧ xs.length ≤ i⟩
/-- lo, lo + 1, .. (n of them) -/
def Itr (lo : Int) (n : Nat) : It := ⟨fun i _ => i < n, fun i H x H' => H' = H ∧ x = .int (lo + i), fun i _ => n ≤ i⟩
theorem turn_list {P : Program} {w : World} {K : PySem.W.Frag} {tg : Expr} (a it : Addr) : Turn P w K tg (Itl K a) [it] it (fun i h => h.IsListIter it a i) where
  mem := by simp
  obj := fun i h st b hb => by
    have e : b = it := by simpa using hb
    subst e
    obtain ⟨o, e, c, d⟩ := st
    exact ⟨o, e, fun v z => by rw [d] at z; cases z⟩
  keep := fun i h h' st k => st.at fun o e => k it (by simp) o e
  item := by
    intro X hP hw hK hc i pins s σ H E I hf st hg
    subst hP hw hK
    obtain ⟨xs, x, hq, hx⟩ := hg
    obtain ⟨its, rv, p, hz⟩ := I.list hq
    obtain ⟨u, hu, ru⟩ := rv.get hx
    obtain ⟨f0, f1, f2, f3, f4, f5⟩ := hf it (by simp)
    refine wpAny_pyNext_list_item st p.isList (x := u) (by simpa using hu) fun h' st' sb => ?_
    have I1 : Inv X pins σ H { s with heap := h' } := I.turned (t' := s.toks) (fun b o hb e => (sb.2 b hb).trans e) f0 f1 f3 f4 f5
    obtain ⟨o, e, c, d⟩ := id st'
    exact ⟨u, rfl, go_of (s := { s with heap := h' }) e c d (by decide) ⟨x, H, I1, ru, ⟨rfl, fun ys hy => by rw [I.list_inj hy hq]; exact hx⟩, st', fun b hb => (hf b hb).1⟩⟩
  done := by
    intro X hP hw hK hc i pins s σ H E I hf st hg
    subst hP hw hK
    obtain ⟨xs, hq, hx⟩ := hg
    obtain ⟨its, rv, p, hz⟩ := I.list hq
    obtain ⟨f0, f1, f2, f3, f4, f5⟩ := hf it (by simp)
    have hl := rv.length
    exact wpAny_pyNext_list_end (I.ok.hd hc) st p.isList (by simp; omega) fun h' eb => ⟨rfl, I.turned (t' := s.toks) (fun b o hb e => eb b o hb e) f0 f1 f3 f4 f5⟩
  self := fun _ _ _ _ _ st h => wpAny_pyIter_listiter st h
theorem turn_range {P : Program} {w : World} {K : PySem.W.Frag} {tg : Expr} (it : Addr) (lo : Int) (n : Nat) : Turn P w K tg (Itr lo n) [it] it (fun i h => IsRangeIter h it (lo + (i : Nat) * 1) ((n : Int) - (i : Nat)) 1) where
  mem := by simp
  obj := fun i h st b hb => by
    have e : b = it := by simpa using hb
    subst e
    exact ⟨_, st, fun v z => by
      have z' : Data.fields _ = Data.cell v := z
      cases z'⟩
  keep := fun i h h' st k => k it (by simp) _ st
  item := by
    intro X hP hw hK hc i pins s σ H E I hf st hg
    subst hP hw hK
    obtain ⟨f0, f1, f2, f3, f4, f5⟩ := hf it (by simp)
    have W := Walks.range (prog := X.prog) (w := X.w) (I.ok.hd hc) it lo 1 n
    refine W.item i s _ _ hg st fun v h' tk hv st' kk => ?_
    obtain ⟨t, rfl⟩ := hv
    have I1 : Inv X pins σ H { s with heap := h', toks := tk } := I.turned (fun b o hb e => kk b o (by simpa using hb) e) f0 f1 f3 f4 f5
    refine ⟨_, rfl, go_of (s := { s with heap := h', toks := tk }) (n := "range_iterator") st' rfl rfl (by decide) ⟨.int (lo + i), H, I1, ⟨t, ?_⟩, ⟨rfl, rfl⟩, st', fun b hb => (hf b hb).1⟩⟩
    rw [Int.mul_one]
  done := by
    intro X hP hw hK hc i pins s σ H E I hf st hg
    subst hP hw hK
    obtain ⟨f0, f1, f2, f3, f4, f5⟩ := hf it (by simp)
    exact wpAny_pyNext_range_end (I.ok.hd hc) st (by have : n ≤ i := hg; omega) fun h' eb => ⟨rfl, I.turned (t' := s.toks) (fun b o hb e => eb b o hb e) f0 f1 f3 f4 f5⟩
  self := fun _ _ _ _ _ st h => wpAny_pyIter_rangeiter st h
end L2

namespace L2
open PySem PySem.Spec PyProof.Rows
section
variable {X : Cx} {tg : Expr}
def iList (K : PySem.W.Frag) (tl : TE) : TI := fun σ H R => tl σ H fun x H1 => ∃ a, x = .ref a ∧ (∃ xs, SqL K H1 a xs) ∧ R (Itl K a) H1
def iTup (K : PySem.W.Frag) (tl : TE) : TI := fun σ H R => tl σ H fun x H1 => ∃ a, x = .ref a ∧ (∃ xs, SqT K H1 a xs) ∧ R (Itt K a) H1
theorem pi_list {l : Expr} {tl : TE} (hl : PE X l tl) : PI X tg l (iList X.K tl) := by
  intro pins s σ H R I h
  refine thn (hl pins s σ H _ I h) fun v s1 ⟨x, H1, I1, r1, q1⟩ => ?_
  obtain ⟨a, e, ⟨xs, hq⟩, q⟩ := q1
  subst e
  cases r1
  obtain ⟨its, rv, p, hz⟩ := I1.list hq
  refine wpAny_pyIter_list p.isList ?_
  refine ⟨s1.heap.objs.size, [s1.heap.objs.size], _, _, H1, rfl, I1.kept (t' := s1.toks) fun b o e => Heap.get?_push_of_some _ e, turn_list a _, ⟨_, Heap.get?_push_size _ rfl, rfl, rfl⟩, fun b hb => ?_, q⟩
  have e : b = s1.heap.objs.size := by simpa using hb
  subst e
  exact I1.fpOk (Nat.le_refl _) (I1.hok.fresh (Nat.le_refl _))
/-- a range object just made, walked -/
theorem range_it {pins : List (Addr × Obj)} {σ : St} {H : Hp} {s : Shared} {R : It → Hp → Prop} {E : Value → Shared → Prop} {lo hi : Int} {t u v : Tok} {tk : Nat} (I : Inv X pins σ H s) (h1 : -(2 ^ 62) ≤ lo) (h2 : lo < 2 ^ 62) (h3 : -(2 ^ 62) ≤ hi) (h4 : hi < 2 ^ 62)
    (q : R (Itr lo (hi - lo).toNat) H) : wpAny (model X.prog X.w) X.A (pyIter (.ref s.heap.objs.size)) (PIE X pins σ tg R) E { s with heap := s.heap.push { cls := .type "range", data := .fields #[.int lo t, .int hi u, .int 1 v] }, toks := tk } := by
  refine wpAny_pyIter_range (IsRange.new ..) (small_one h1 h2 h3 h4) ?_
  have I1 : Inv X pins σ H { s with heap := s.heap.push { cls := .type "range", data := .fields #[.int lo t, .int hi u, .int 1 v] }, toks := tk } := I.kept fun b o e => Heap.get?_push_of_some _ e
  refine ⟨(s.heap.push { cls := .type "range", data := .fields #[.int lo t, .int hi u, .int 1 v] }).objs.size, [(s.heap.push { cls := .type "range", data := .fields #[.int lo t, .int hi u, .int 1 v] }).objs.size], _, _, H, rfl,
    I1.kept (t' := tk) fun b o e => Heap.get?_push_of_some _ e, turn_range _ lo (hi - lo).toNat, ?_, fun b hb => ?_, q⟩
  · have e1 : lo + ((0 : Nat) : Int) * 1 = lo := by simp
    have e2 : (((hi - lo).toNat : Nat) : Int) - ((0 : Nat) : Int) = Builtin.Range.rangeSize lo hi 1 := by rw [rangeSize_one]; split <;> omega
    show IsRangeIter _ _ (lo + ((0 : Nat) : Int) * 1) ((((hi - lo).toNat : Nat) : Int) - ((0 : Nat) : Int)) 1
    rw [e1, e2]
    exact Heap.get?_push_size _ rfl
  · have e : b = (s.heap.push { cls := .type "range", data := .fields #[.int lo t, .int hi u, .int 1 v] }).objs.size := by simpa using hb
    subst e
    exact I1.fpOk (Nat.le_refl _) (I1.hok.fresh (Nat.le_refl _))
def iRng1 (ta : TA) : TI := fun σ H R => ta σ H fun vs H1 => ∃ j : Int, vs = [.int j] ∧ -(2 ^ 62) ≤ j ∧ j < 2 ^ 62 ∧ R (Itr 0 j.toNat) H1
def iRng2 (ta : TA) : TI := fun σ H R => ta σ H fun vs H1 => ∃ i j : Int, vs = [.int i, .int j] ∧ (-(2 ^ 62) ≤ i ∧ i < 2 ^ 62 ∧ -(2 ^ 62) ≤ j ∧ j < 2 ^ 62) ∧ R (Itr i (j - i).toNat) H1
theorem pi_range1 {a : Expr} {ta : TA} {p pos : Pos} (hg : Gl X "range") (hm : X.mg "range" = none) (ha : PA X [a] ta) (hs : starEach [a] X.env = [(false, eval a X.env)] := by rfl) : PI X tg (.Call (.Name "range" p) [a] [] pos) (iRng1 ta) := by
  intro pins s σ H R I h
  refine Call_ (ld_blt I hg hm boot_range (PyProof.Rows.callWith_type1 (thn (ha pos pins s σ H _ I h) fun us s1 ⟨vs, H1, I1, r1, q1⟩ => ?_) hs rfl))
  obtain ⟨j, e, q1, q2, q⟩ := q1
  subst e
  cases r1 with
  | cons r rr =>
    cases rr
    obtain ⟨t, rfl⟩ := r
    exact call_range_1 (range_it I1 (by omega) (by omega) q1 q2 (by simpa using q))
/-! ### for -/
/-- W: the invariant by the turn and a measure; N: what the body is to reach -/
def tFor (wi : TI) (g : TG) (tb : TS) : TS := fun D σ H => wi σ H fun J H1 => ∃ W : Nat → Nat → St → Hp → Prop, (∃ m, W 0 m σ H1) ∧ ∀ i m σ H, W i m σ H →
  (J.stop i H ∧ D.nx σ H) ∨ (J.go i H ∧ ∃ N : St → Hp → Prop, (∀ σ' H', N σ' H' → ∃ m', m' < m ∧ W (i + 1) m' σ' H') ∧ ∀ x H', J.yld i H x H' → g x σ H' fun σ2 H2 => tb { D with nx := N, ct := N, bk := D.nx } σ2 H2)
/-- the records at fp as they stand -/
def pinsAt (fp : List Addr) (h : Heap) : List (Addr × Obj) := fp.filterMap fun b => (h.get? b).map fun o => (b, o)
theorem mem_pinsAt {fp : List Addr} {h : Heap} {b : Addr} {o : Obj} (hb : b ∈ fp) (e : h.get? b = some o) : (b, o) ∈ pinsAt fp h := List.mem_filterMap.mpr ⟨b, hb, by rw [e]; rfl⟩
theorem of_pinsAt {fp : List Addr} {h : Heap} {p : Addr × Obj} (hp : p ∈ pinsAt fp h) : p.1 ∈ fp ∧ h.get? p.1 = some p.2 := by
  obtain ⟨b, hb, e⟩ := List.mem_filterMap.mp hp
  cases q : h.get? b with
  | none => rw [q] at e; cases e
  | some o =>
    rw [q] at e
    have e' : (b, o) = p := Option.some.inj e
    subst e'
    exact ⟨hb, q⟩
theorem Inv.pinned {pins : List (Addr × Obj)} {σ : St} {H : Hp} {s : Shared} {fp : List Addr} (I : Inv X pins σ H s) (hf : ∀ b ∈ fp, FpOk X pins H b) (ho : ∀ b ∈ fp, ∃ o, s.heap.get? b = some o ∧ ∀ v, o.data ≠ .cell v) : Inv X (pins ++ pinsAt fp s.heap) σ H s :=
  I.pins_of fun p hp => (List.mem_append.mp hp).elim (fun z => I.pin p (List.mem_append_right _ z)) fun z => by
    obtain ⟨hb, e⟩ := of_pinsAt z
    obtain ⟨f0, f1, f2, _⟩ := hf p.1 hb
    obtain ⟨o, e', d⟩ := ho p.1 hb
    rw [e] at e'; cases e'
    exact ⟨e, f0, f1, f2, d⟩
theorem Inv.unpinned {pins pl : List (Addr × Obj)} {σ : St} {H : Hp} {s : Shared} (I : Inv X (pins ++ pl) σ H s) : Inv X pins σ H s := I.pins_of fun p hp => I.pin p (List.mem_append_right _ (List.mem_append_left _ hp))
theorem ps_for {iter : Expr} {body : List Stmt} {wi : TI} {g : TG} {tb : TS} {pos : Pos} (hp : PassesOwn (model X.prog X.w) X.A X.env X.xe) (hc : X.calm = true) (hi : PI X tg iter wi) (hg : PG X tg g) (hb : PSs X body tb)
    (hs : ∀ x, foldedSetIterable iter X.env x = pure x := by intro _; rfl) : PS X (.For tg iter body [] pos) (tFor wi g tb) := by
  intro pins s σ H D I h
  refine wpAny_For (thn (hi pins s σ H _ I h) fun v s1 h1 => thn h1 fun itv s2 h2 => ?_) hs
  obtain ⟨it, fp, tn, J, H2, e, I2, T, st2, f2, W, ⟨m0, w0⟩, turn⟩ := h2
  subst e
  -- what stays true of the iterator's objects through the loop
  have stat : ∀ {H' : Hp}, (∀ b ∈ fp, H' b = none) → ∀ b ∈ fp, FpOk X pins H' b := fun hn b hb => ⟨hn b hb, (f2 b hb).2⟩
  refine codeAny_forLoop_any (fun n s' => ∃ i σ' H', Inv X pins σ' H' s' ∧ tn i s'.heap ∧ (∀ b ∈ fp, H' b = none) ∧ W i n σ' H') ?_ m0 ⟨0, σ, H2, I2, st2, fun b hb => (f2 b hb).1, w0⟩
  rintro n s3 ⟨i, σ3, H3, I3, st3, fr3, w3⟩
  rcases turn i n σ3 H3 w3 with ⟨stop, qn⟩ | ⟨go, N, hN, step⟩
  · refine wpAny_passesOwn hp (thn (T.done X rfl rfl rfl hc i pins s3 σ3 H3 X.xe I3 (stat fr3) st3 stop) fun r s4 ⟨hr, I4⟩ => ?_)
    subst hr
    exact wpAny_execs_nil ⟨σ3, H3, I4, qn⟩
  · refine wpAny_passesOwn hp (thn (T.item X rfl rfl rfl hc i pins s3 σ3 H3 X.xe I3 (stat fr3) st3 go) fun r s4 ⟨u, hr, h4⟩ => ?_)
    subst hr
    refine wpAny_passesOwn hp (thn h4 fun _ s5 ⟨x, H5, I5, r5, y5, st5, fr5⟩ => ?_)
    have I5' := I5.pinned (stat fr5) (T.obj _ _ st5)
    refine wpAny_passesOwn hp (thn (hg _ s5 σ3 H5 x u _ I5' r5 (step x H5 y5)) fun _ s6 ⟨σ6, H6, I6, q6⟩ => ?_)
    refine wpAny_passesOwn hp (thn (hb _ s6 σ6 H6 _ I6 q6) fun f s7 q7 => ?_)
    have again : ∀ {σ7 : St} {H7 : Hp}, Inv X (pins ++ pinsAt fp s5.heap) σ7 H7 s7 → N σ7 H7 → ∃ m, m < n ∧ ∃ i σ' H', Inv X pins σ' H' s7 ∧ tn i s7.heap ∧ (∀ b ∈ fp, H' b = none) ∧ W i m σ' H' := fun {σ7 H7} I7 n7 => by
      obtain ⟨m', hm, w7⟩ := hN σ7 H7 n7
      refine ⟨m', hm, i + 1, σ7, H7, I7.unpinned, T.keep _ _ _ st5 fun b hb o e => (I7.pin (b, o) (List.mem_append_right _ (List.mem_append_right _ (mem_pinsAt hb e)))).1, fun b hb => ?_, w7⟩
      obtain ⟨o, e, d⟩ := T.obj _ _ st5 b hb
      exact (I7.pin (b, o) (List.mem_append_right _ (List.mem_append_right _ (mem_pinsAt hb e)))).2.1
    cases f with
    | next => obtain ⟨σ7, H7, I7, n7⟩ := q7; exact again I7 n7
    | cont => obtain ⟨σ7, H7, I7, n7⟩ := q7; exact again I7 n7
    | brk => obtain ⟨σ7, H7, I7, q7⟩ := q7; exact ⟨σ7, H7, I7.unpinned, q7⟩
    | ret v => obtain ⟨x7, σ7, H7, I7, r7, q7⟩ := q7; exact ⟨x7, σ7, H7, I7.unpinned, r7, q7⟩
end

/-! ### the forms one uses -/
/-- over a list that the body leaves as it is -/
theorem for_list {K : PySem.W.Frag} {a : Addr} {xs : List V} {g : TG} {tb : TS} {D : Ends} {σ : St} {H : Hp} (Pv : Nat → St → Hp → Prop) (h0 : Pv 0 σ H) (hl : ∀ i σ H, i ≤ xs.length → Pv i σ H → SqL K H a xs)
    (hs : ∀ i x σ H, xs[i]? = some x → Pv i σ H → g x σ H fun σ2 H2 => tb { D with nx := Pv (i + 1), ct := Pv (i + 1), bk := D.nx } σ2 H2) (hd : ∀ σ H, Pv xs.length σ H → D.nx σ H) :
    ∃ W : Nat → Nat → St → Hp → Prop, (∃ m, W 0 m σ H) ∧ ∀ i m σ H, W i m σ H →
      ((Itl K a).stop i H ∧ D.nx σ H) ∨ ((Itl K a).go i H ∧ ∃ N : St → Hp → Prop, (∀ σ' H', N σ' H' → ∃ m', m' < m ∧ W (i + 1) m' σ' H') ∧ ∀ x H', (Itl K a).yld i H x H' → g x σ H' fun σ2 H2 => tb { D with nx := N, ct := N, bk := D.nx } σ2 H2) := by
  refine ⟨fun i m σ H => m = xs.length - i ∧ i ≤ xs.length ∧ Pv i σ H, ⟨xs.length, by simp, Nat.zero_le _, h0⟩, ?_⟩
  rintro i m σ H ⟨rfl, hi, p⟩
  have q := hl i σ H hi p
  by_cases hlt : i < xs.length
  · refine .inr ⟨⟨xs, xs[i], q, by simp [hlt]⟩, Pv (i + 1), fun σ' H' p' => ⟨xs.length - (i + 1), by omega, rfl, hlt, p'⟩, fun x H' y => ?_⟩
    obtain ⟨e, y⟩ := y
    subst e
    exact hs i x σ _ (y xs q) p
  · have e : i = xs.length := by omega
    subst e
    exact .inl ⟨⟨xs, q, Nat.le_refl _⟩, hd σ H p⟩
theorem for_range {lo : Int} {n : Nat} {g : TG} {tb : TS} {D : Ends} {σ : St} {H : Hp} (Pv : Nat → St → Hp → Prop) (h0 : Pv 0 σ H)
    (hs : ∀ i σ H, i < n → Pv i σ H → g (.int (lo + i)) σ H fun σ2 H2 => tb { D with nx := Pv (i + 1), ct := Pv (i + 1), bk := D.nx } σ2 H2) (hd : ∀ σ H, Pv n σ H → D.nx σ H) :
    ∃ W : Nat → Nat → St → Hp → Prop, (∃ m, W 0 m σ H) ∧ ∀ i m σ H, W i m σ H →
      ((Itr lo n).stop i H ∧ D.nx σ H) ∨ ((Itr lo n).go i H ∧ ∃ N : St → Hp → Prop, (∀ σ' H', N σ' H' → ∃ m', m' < m ∧ W (i + 1) m' σ' H') ∧ ∀ x H', (Itr lo n).yld i H x H' → g x σ H' fun σ2 H2 => tb { D with nx := N, ct := N, bk := D.nx } σ2 H2) := by
  refine ⟨fun i m σ H => m = n - i ∧ i ≤ n ∧ Pv i σ H, ⟨n, by simp, Nat.zero_le _, h0⟩, ?_⟩
  rintro i m σ H ⟨rfl, hi, p⟩
  by_cases hlt : i < n
  · refine .inr ⟨hlt, Pv (i + 1), fun σ' H' p' => ⟨n - (i + 1), by omega, rfl, hlt, p'⟩, fun x H' y => ?_⟩
    obtain ⟨e, y⟩ := y
    subst e y
    exact hs i σ _ hlt p
  · have e : i = n := by omega
    subst e
    exact .inl ⟨Nat.le_refl _, hd σ H p⟩
end L2

namespace L2
open PySem PySem.Spec PyProof.Rows

abbrev R2 := V → V → Hp → VK → Prop
/-- a two-place operation on values: f is binaryOp op, inplaceOp op or compareOp op -/
def OpR (X : Cx) (f : Value → Value → Sem Value) (r : R2) : Prop :=
  ∀ (pins : List (Addr × Obj)) (s : Shared) (σ : St) (H : Hp) (x y : V) (v u : Value) (Q : VK), Inv X pins σ H s → RelV x v → RelV y u → r x y H Q →
    wpAny (model X.prog X.w) X.A (f v u) (EP X pins σ Q) X.xe s
/-- a one-place operation -/
def UnR (X : Cx) (f : Value → Sem Value) (r : V → Hp → VK → Prop) : Prop :=
  ∀ (pins : List (Addr × Obj)) (s : Shared) (σ : St) (H : Hp) (x : V) (v : Value) (Q : VK), Inv X pins σ H s → RelV x v → r x H Q →
    wpAny (model X.prog X.w) X.A (f v) (EP X pins σ Q) X.xe s
/-- a call of a value that is known (a builtin, a type) with values -/
def CallR (X : Cx) (f : Value) (r : List V → Hp → VK → Prop) : Prop :=
  ∀ (pins : List (Addr × Obj)) (s : Shared) (σ : St) (H : Hp) (xs : List V) (us : List Value) (Q : VK), Inv X pins σ H s → Vals xs us → r xs H Q →
    wpAny (model X.prog X.w) X.A (call f us) (EP X pins σ Q) X.xe s
/-- a value's truth -/
def TruR (X : Cx) (r : V → Hp → (Bool → Hp → Prop) → Prop) : Prop :=
  ∀ (pins : List (Addr × Obj)) (s : Shared) (σ : St) (H : Hp) (x : V) (v : Value) (Q : Bool → Hp → Prop), Inv X pins σ H s → RelV x v → r x H Q →
    wpAny (model X.prog X.w) X.A (truthy v) (TP X pins σ Q) X.xe s

def tOp (r : R2) (ta tb : TE) : TE := fun σ H Q => ta σ H fun x H1 => tb σ H1 fun y H2 => r x y H2 Q
def tUn (r : V → Hp → VK → Prop) (ta : TE) : TE := fun σ H Q => ta σ H fun x H1 => r x H1 Q
/-- ints in, under C, and a value out -/
def rI (C : Int → Int → Prop) (g : Int → Int → V) : R2 := fun x y H Q => ∃ i j, x = .int i ∧ y = .int j ∧ C i j ∧ Q (g i j) H
def rI0 (g : Int → Int → V) : R2 := fun x y H Q => ∃ i j, x = .int i ∧ y = .int j ∧ Q (g i j) H
def rU (g : Int → V) : V → Hp → VK → Prop := fun x H Q => ∃ i, x = .int i ∧ Q (g i) H

section
variable {X : Cx} {a b c : Expr} {ta tb tc : TE} {pos : Pos}

theorem binT (ha : PE X a ta) (hb : PE X b tb) {pins : List (Addr × Obj)} {s : Shared} {σ : St} {H : Hp} {R : V → V → Hp → Prop} (I : Inv X pins σ H s)
    (h : ta σ H fun x H1 => tb σ H1 fun y H2 => R x y H2) {Q : Value → Shared → Prop} {f : Value → Value → Sem Value}
    (hf : ∀ v u s2 x y H2, Inv X pins σ H2 s2 → RelV x v → RelV y u → R x y H2 → wpAny (model X.prog X.w) X.A (f v u) Q X.xe s2) :
    wpAny (model X.prog X.w) X.A (eval a X.env) (fun v s₁ => wpAny (model X.prog X.w) X.A (eval b X.env) (fun u s₂ => wpAny (model X.prog X.w) X.A (f v u) Q X.xe s₂) X.xe s₁) X.xe s := by
  refine thn (ha pins s σ H _ I h) fun v s1 ⟨x, H1, I1, r1, q1⟩ => ?_
  refine thn (hb pins s1 σ H1 _ I1 q1) fun u s2 ⟨y, H2, I2, r2, q2⟩ => ?_
  exact hf v u s2 x y H2 I2 r1 r2 q2

theorem pe_op {op : Operator} {r : R2} (ho : OpR X (binaryOp op) r) (ha : PE X a ta) (hb : PE X b tb) : PE X (.BinOp a op b pos) (tOp r ta tb) := by
  intro pins s σ H Q I h
  exact wpAny_BinOp (binT ha hb I h fun v u s2 x y H2 I2 rx ry q => ho pins s2 σ H2 x y v u Q I2 rx ry q)
theorem pe_un {op : UnaryOp} {r : V → Hp → VK → Prop} (ho : UnR X (unaryOp op) r) (ha : PE X a ta) : PE X (.UnaryOp op a pos) (tUn r ta) := by
  intro pins s σ H Q I h
  exact UnaryOp_ (thn (ha pins s σ H _ I h) fun v s1 ⟨x, H1, I1, r1, q1⟩ => ho pins s1 σ H1 x v Q I1 r1 q1)
/-! ### ints -/
theorem opI {f : Value → Value → Sem Value} {C : Int → Int → Prop} {g : Int → Int → Int}
    (rule : ∀ (i j : Int) (t u : Tok) (s : Shared) (Q : Value → Shared → Prop) (E : Value → Shared → Prop), C i j → Q (.int (g i j) s.toks) { s with toks := s.toks + 1 } → wpAny (model X.prog X.w) X.A (f (.int i t) (.int j u)) Q E s) :
    OpR X f (rI C fun i j => .int (g i j)) := by
  intro pins s σ H x y v u Q I rx ry h
  obtain ⟨i, j, rfl, rfl, hc, q⟩ := h
  obtain ⟨t, rfl⟩ := rx
  obtain ⟨t', rfl⟩ := ry
  exact rule i j t t' s _ _ hc ⟨.int (g i j), H, I.tok _, ⟨_, rfl⟩, q⟩
theorem opI0 {f : Value → Value → Sem Value} {g : Int → Int → Int}
    (rule : ∀ (i j : Int) (t u : Tok) (s : Shared) (Q : Value → Shared → Prop) (E : Value → Shared → Prop), Q (.int (g i j) s.toks) { s with toks := s.toks + 1 } → wpAny (model X.prog X.w) X.A (f (.int i t) (.int j u)) Q E s) :
    OpR X f (rI0 fun i j => .int (g i j)) := by
  intro pins s σ H x y v u Q I rx ry h
  obtain ⟨i, j, rfl, rfl, q⟩ := h
  obtain ⟨t, rfl⟩ := rx
  obtain ⟨t', rfl⟩ := ry
  exact rule i j t t' s _ _ ⟨.int (g i j), H, I.tok _, ⟨_, rfl⟩, q⟩
theorem opB0 {f : Value → Value → Sem Value} {g : Int → Int → Bool}
    (rule : ∀ (i j : Int) (t u : Tok) (s : Shared) (Q : Value → Shared → Prop) (E : Value → Shared → Prop), Q (.bool (g i j)) s → wpAny (model X.prog X.w) X.A (f (.int i t) (.int j u)) Q E s) :
    OpR X f (rI0 fun i j => .bl (g i j)) := by
  intro pins s σ H x y v u Q I rx ry h
  obtain ⟨i, j, rfl, rfl, q⟩ := h
  obtain ⟨t, rfl⟩ := rx
  obtain ⟨t', rfl⟩ := ry
  exact rule i j t t' s _ _ ⟨.bl (g i j), H, I, rfl, q⟩

def CDiv (i j : Int) : Prop := 0 < j ∧ j < 1073741824
def CDivN (i j : Int) : Prop := j ≠ 0 ∧ j.natAbs < 1073741824
def CPow (i j : Int) : Prop := 0 ≤ j ∧ j ≤ 1000000 ∧ i.natAbs < 2 ^ 64
def CMul (i j : Int) : Prop := (-(2 ^ 64) < i ∧ i < 2 ^ 64) ∨ (-(2 ^ 64) < j ∧ j < 2 ^ 64)
theorem CMul.ok {i j : Int} (h : CMul i j) : IntMulOk i j := by
  rcases h with ⟨h1, h2⟩ | ⟨h1, h2⟩
  · exact .of_left (intBits_le_64 h1 h2)
  · exact .of_right (intBits_le_64 h1 h2)
theorem op_add : OpR X (binaryOp .Add) (rI0 fun i j => .int (i + j)) := opI0 fun _ _ _ _ _ _ _ q => add_int q
theorem op_sub : OpR X (binaryOp .Sub) (rI0 fun i j => .int (i - j)) := opI0 fun _ _ _ _ _ _ _ q => sub_int q
theorem op_mul : OpR X (binaryOp .Mult) (rI CMul fun i j => .int (i * j)) := opI fun _ _ _ _ _ _ _ hc q => mul_int q hc.ok
/-- % by a positive divisor of any size -/
theorem op_mod : OpR X (binaryOp .Mod) (rI (fun _ j => 0 < j) fun i j => .int (i % j)) := opI fun i j _ _ _ _ _ hc q => by
  have h1 : (0 : Int) < j := hc
  exact mod_int' (by omega) (by rw [Int.fmod_eq_emod_of_nonneg i (by omega)]; exact q)
theorem op_pow : OpR X (binaryOp .Pow) (rI CPow fun i j => .int (i ^ j.toNat)) := opI fun _ _ _ _ _ _ _ hc q => pow_int_small hc.1 hc.2.1 hc.2.2 q
theorem unI {f : Value → Sem Value} {g : Int → Int}
    (rule : ∀ (i : Int) (t : Tok) (s : Shared) (Q : Value → Shared → Prop) (E : Value → Shared → Prop), Q (.int (g i) s.toks) { s with toks := s.toks + 1 } → wpAny (model X.prog X.w) X.A (f (.int i t)) Q E s) :
    UnR X f (rU fun i => .int (g i)) := by
  intro pins s σ H x v Q I rx h
  obtain ⟨i, rfl, q⟩ := h
  obtain ⟨t, rfl⟩ := rx
  exact rule i t s _ _ ⟨.int (g i), H, I.tok _, ⟨_, rfl⟩, q⟩
theorem un_neg : UnR X (unaryOp .USub) (rU fun i => .int (-i)) := unI fun _ _ _ _ _ q => neg_int q
/-! ### bools among ints: n += (a < b) -/
end

/-! ### comparisons -/
/-- the scalars that == tells apart as data does -/
def scal : V → V → Bool
  | .non, .non => true | .non, .int _ => true | .int _, .non => true | .non, .bl _ => true | .bl _, .non => true | .non, .str _ => true | .str _, .non => true
  | .int _, .int _ => true | .bl _, .bl _ => true | .str _, .str _ => true | .byt _, .byt _ => true
  | .int _, .str _ => true | .str _, .int _ => true | .bl _, .str _ => true | .str _, .bl _ => true
  | _, _ => false
def rEq : R2 := fun x y H Q => scal x y = true ∧ Q (.bl (decide (x = y))) H
def rNe : R2 := fun x y H Q => scal x y = true ∧ Q (.bl (!decide (x = y))) H

theorem dec_int {i j : Int} : decide (V.int i = V.int j) = (i == j) := by
  rw [Bool.eq_iff_iff]
  simp
theorem dec_bl {i j : Bool} : decide (V.bl i = V.bl j) = (i == j) := by
  rw [Bool.eq_iff_iff]
  simp
theorem dec_str {i j : Str} : decide (V.str i = V.str j) = (i == j) := by
  rw [Bool.eq_iff_iff]
  simp
theorem dec_byt {i j : Array UInt8} : decide (V.byt i = V.byt j) = (i.toList == j.toList) := by
  rw [Bool.eq_iff_iff]
  cases i
  cases j
  simp

section
variable {X : Cx} {a b c : Expr} {ta tb tc : TE} {pos : Pos}
theorem fin_bl {pins : List (Addr × Obj)} {σ : St} {H : Hp} {s : Shared} {Q : VK} {k k' : Bool} (I : Inv X pins σ H s) (q : Q (.bl k) H) (e : k = k') : EP X pins σ Q (.bool k') s := by
  subst e
  exact ⟨.bl k, H, I, rfl, q⟩
theorem op_eq : OpR X (compareOp .Eq) rEq := by
  intro pins s σ H x y v u Q I rx ry h
  obtain ⟨hs, q⟩ := h
  cases x with
  | non =>
    cases rx
    cases y with
    | non => cases ry; exact PySem.EqNone.eq_none_none (fin_bl I q (by simp))
    | bl j => cases ry; exact PySem.EqNone.eq_none_bool (fin_bl I q (by simp))
    | int j => obtain ⟨t', rfl⟩ := ry; exact PySem.EqNone.eq_none_int (fin_bl I q (by simp))
    | str j => obtain ⟨t', rfl⟩ := ry; exact PySem.EqNone.eq_none_str (fin_bl I q (by simp))
    | _ => exact absurd (show false = true from hs) Bool.false_ne_true
  | bl i =>
    cases rx
    cases y with
    | non => cases ry; exact PySem.EqNone.eq_bool_none (fin_bl I q (by simp))
    | bl j => cases ry; exact eq_bool (fin_bl I q dec_bl)
    | str j => obtain ⟨t', rfl⟩ := ry; exact PySem.EqMixed.eq_bool_str (fin_bl I q (by simp))
    | _ => exact absurd (show false = true from hs) Bool.false_ne_true
  | int i =>
    obtain ⟨t, rfl⟩ := rx
    cases y with
    | non => cases ry; exact PySem.EqNone.eq_int_none (fin_bl I q (by simp))
    | int j => obtain ⟨t', rfl⟩ := ry; exact eq_int (fin_bl I q dec_int)
    | str j => obtain ⟨t', rfl⟩ := ry; exact PySem.EqMixed.eq_int_str (fin_bl I q (by simp))
    | _ => exact absurd (show false = true from hs) Bool.false_ne_true
  | str i =>
    obtain ⟨t, rfl⟩ := rx
    cases y with
    | non => cases ry; exact PySem.EqNone.eq_str_none (fin_bl I q (by simp))
    | bl j => cases ry; exact PySem.EqMixed.eq_str_bool (fin_bl I q (by simp))
    | int j => obtain ⟨t', rfl⟩ := ry; exact PySem.EqMixed.eq_str_int (fin_bl I q (by simp))
    | str j => obtain ⟨t', rfl⟩ := ry; exact eq_str (fin_bl I q dec_str)
    | _ => exact absurd (show false = true from hs) Bool.false_ne_true
  | byt i =>
    obtain ⟨t, rfl⟩ := rx
    cases y with
    | byt j => obtain ⟨t', rfl⟩ := ry; exact PySem.W.eq_bytes (fin_bl I q dec_byt)
    | _ => exact absurd (show false = true from hs) Bool.false_ne_true
  | _ => cases y <;> exact absurd (show false = true from hs) Bool.false_ne_true
theorem op_ne : OpR X (compareOp .NotEq) rNe := by
  intro pins s σ H x y v u Q I rx ry h
  obtain ⟨hs, q⟩ := h
  cases x with
  | non =>
    cases rx
    cases y with
    | non => cases ry; exact PySem.EqNone.ne_none_none (fin_bl I q (by simp))
    | bl j => cases ry; exact PySem.EqNone.ne_none_bool (fin_bl I q (by simp))
    | int j => obtain ⟨t', rfl⟩ := ry; exact PySem.EqNone.ne_none_int (fin_bl I q (by simp))
    | str j => obtain ⟨t', rfl⟩ := ry; exact PySem.EqNone.ne_none_str (fin_bl I q (by simp))
    | _ => exact absurd (show false = true from hs) Bool.false_ne_true
  | bl i =>
    cases rx
    cases y with
    | non => cases ry; exact PySem.EqNone.ne_bool_none (fin_bl I q (by simp))
    | bl j => cases ry; exact ne_bool (fin_bl I q (congrArg not dec_bl))
    | str j => obtain ⟨t', rfl⟩ := ry; exact PySem.EqMixed.ne_bool_str (fin_bl I q (by simp))
    | _ => exact absurd (show false = true from hs) Bool.false_ne_true
  | int i =>
    obtain ⟨t, rfl⟩ := rx
    cases y with
    | non => cases ry; exact PySem.EqNone.ne_int_none (fin_bl I q (by simp))
    | int j => obtain ⟨t', rfl⟩ := ry; exact ne_int (fin_bl I q (congrArg not dec_int))
    | str j => obtain ⟨t', rfl⟩ := ry; exact PySem.EqMixed.ne_int_str (fin_bl I q (by simp))
    | _ => exact absurd (show false = true from hs) Bool.false_ne_true
  | str i =>
    obtain ⟨t, rfl⟩ := rx
    cases y with
    | non => cases ry; exact PySem.EqNone.ne_str_none (fin_bl I q (by simp))
    | bl j => cases ry; exact PySem.EqMixed.ne_str_bool (fin_bl I q (by simp))
    | int j => obtain ⟨t', rfl⟩ := ry; exact PySem.EqMixed.ne_str_int (fin_bl I q (by simp))
    | str j => obtain ⟨t', rfl⟩ := ry; exact ne_str (fin_bl I q (congrArg not dec_str))
    | _ => exact absurd (show false = true from hs) Bool.false_ne_true
  | byt i =>
    obtain ⟨t, rfl⟩ := rx
    cases y with
    | byt j => obtain ⟨t', rfl⟩ := ry; exact PySem.W.ne_bytes (fin_bl I q (congrArg not dec_byt))
    | _ => exact absurd (show false = true from hs) Bool.false_ne_true
  | _ => cases y <;> exact absurd (show false = true from hs) Bool.false_ne_true

theorem op_lt : OpR X (compareOp .Lt) (rI0 fun i j => .bl (decide (i < j))) := opB0 fun _ _ _ _ _ _ _ q => lt_int q
theorem op_le : OpR X (compareOp .LtE) (rI0 fun i j => .bl (decide (i ≤ j))) := opB0 fun _ _ _ _ _ _ _ q => le_int q
theorem op_gt : OpR X (compareOp .Gt) (rI0 fun i j => .bl (decide (j < i))) := opB0 fun _ _ _ _ _ _ _ q => gt_int q
theorem op_ge : OpR X (compareOp .GtE) (rI0 fun i j => .bl (decide (j ≤ i))) := opB0 fun _ _ _ _ _ _ _ q => ge_int q
/-- is None, is not None: the right side a value none -/
theorem op_isN : OpR X (compareOp .Is) (fun x y H Q => y = .non ∧ Q (.bl (decide (x = .non))) H) := by
  intro pins s σ H x y v u Q I rx ry h
  obtain ⟨rfl, q⟩ := h
  cases ry
  refine is_none_gen (fin_bl I q ?_)
  cases x <;> first
    | (cases rx; rfl)
    | (obtain ⟨t, rfl⟩ := rx; rfl)
/-- is, is not of two objects that are tracked lists or instances -/
def isObj : HO → Bool
  | .lst _ => true
  | .ins _ _ _ => true
  | _ => false
theorem nomark (b : Expr) {op : CmpOp} (h : op ≠ .In := by decide) (h2 : op ≠ .NotIn := by decide) : behindInMarks op b = false := by
  have e1 : (op == CmpOp.In) = false := by cases op <;> first | rfl | exact absurd rfl h
  have e2 : (op == CmpOp.NotIn) = false := by cases op <;> first | rfl | exact absurd rfl h2
  cases b <;> simp [behindInMarks, e1, e2]
/-- a comparison as a value; hm: nomark b, or (for in, not in) by with_unfolding_all rfl -/
theorem pe_cmpR {op : CmpOp} {r : R2} (ho : OpR X (compareOp op) r) (ha : PE X a ta) (hb : PE X b tb) (hm : behindInMarks op b = false) : PE X (.Compare a [op] [b] pos) (tOp r ta tb) := by
  intro pins s σ H Q I h
  exact wpAny_Compare1 (binT ha hb I h fun v u s2 x y H2 I2 rx ry q => ho pins s2 σ H2 x y v u Q I2 rx ry q) hm
/-- a reading of a value as a test -/
def tTest (t : TE) : TT := fun σ H Q => t σ H fun x H' => ∃ k, x = .bl k ∧ Q k H'
theorem pt_cmpR {op : CmpOp} {r : R2} (ho : OpR X (compareOp op) r) (ha : PE X a ta) (hb : PE X b tb) (hm : behindInMarks op b = false) : PT X (.Compare a [op] [b] pos) (tTest (tOp r ta tb)) := by
  intro pins s σ H Q I h
  refine wpAny_isTrue_Compare1 (thn (ha pins s σ H _ I h) fun v s1 ⟨x, H1, I1, r1, q1⟩ => thn (hb pins s1 σ H1 _ I1 q1) fun u s2 ⟨y, H2, I2, r2, q2⟩ =>
    thn (ho pins s2 σ H2 x y v u _ I2 r1 r2 q2) fun c s3 ⟨z, H3, I3, r3, k, e, q3⟩ => ?_) hm
  subst e
  cases r3
  exact wpAny_truthy_bool ⟨H3, I3, q3⟩
/-- a op1 b op2 c -/
def tChain (r r' : R2) (ta tb tc : TE) : TE := fun σ H Q => ta σ H fun x H1 => tb σ H1 fun y H2 => r x y H2 fun z H3 => ∃ k, z = .bl k ∧
  (if k = true then tc σ H3 fun w' H4 => r' y w' H4 Q else Q (.bl false) H3)
theorem pt_chain {op op' : CmpOp} {r r' : R2} (ho : OpR X (compareOp op) r) (ho' : OpR X (compareOp op') r') (ha : PE X a ta) (hb : PE X b tb) (hc : PE X c tc)
    (hm : lastMarks [op, op'] [b, c] = false := by with_unfolding_all rfl) : PT X (.Compare a [op, op'] [b, c] pos) (tTest (tChain r r' ta tb tc)) := by
  intro pins s σ H Q I h
  refine isTrue_chain (thn (ha pins s σ H _ I h) fun v s1 ⟨x, H1, I1, r1, q1⟩ => test_link (thn (hb pins s1 σ H1 _ I1 q1) fun u s2 ⟨y, H2, I2, r2, q2⟩ =>
    thn (ho pins s2 σ H2 x y v u _ I2 r1 r2 q2) fun d s3 ⟨z, H3, I3, r3, k, e, q3⟩ => ?_)) hm
  subst e
  cases r3
  refine wpAny_truthy_bool ?_
  cases k with
  | false =>
    obtain ⟨k', e', q'⟩ := q3
    cases e'
    exact ite_ff ⟨H3, I3, q'⟩
  | true =>
    refine ite_tt (test_last (thn (hc pins s3 σ H3 _ I3 q3) fun w' s4 ⟨z', H4, I4, r4, q4⟩ => thn (ho' pins s4 σ H4 y z' u w' _ I4 r2 r4 q4) fun d' s5 ⟨z2, H5, I5, r5, k2, e2, q5⟩ => ?_))
    subst e2
    cases r5
    exact wpAny_truthy_bool ⟨H5, I5, q5⟩

/-! ### truth -/
/-- a value's truth by the abstract heap -/
def TruV (K : PySem.W.Frag) (x : V) (H : Hp) (k : Bool) : Prop :=
  match x with
  | .non => k = false
  | .bl b => k = b
  | .int i => k = (i != 0)
  | .str y => y.length ≤ sizeLine ∧ k = ((y.length : Int) != 0)
  | .byt y => y.size ≤ sizeLine ∧ k = ((y.size : Int) != 0)
  | .ref p => (∃ xs, SqL K H p xs ∧ k = !xs.isEmpty) ∨ (∃ xs, SqT K H p xs ∧ k = !xs.isEmpty) ∨ ∃ kvs, H p = some (.dK kvs) ∧ k = !kvs.isEmpty
  | _ => False
theorem isEmpty_kv {κ : Type} {kvs : List (κ × V)} {vs : List (κ × Value)} (r : KV kvs vs) : (!vs.isEmpty) = !kvs.isEmpty := by
  cases r <;> rfl
theorem isEmpty_of {xs : List V} {its : List Value} (r : Vals xs its) : (!its.toArray.isEmpty) = !xs.isEmpty := by
  cases r <;> simp
theorem line63 : (sizeLine : Nat) < 2 ^ 63 := by rw [sizeLine_eq]; decide
theorem tru_ok : TruR X (fun x H Q => ∃ k, TruV X.K x H k ∧ Q k H) := by
  intro pins s σ H x v Q I rx h
  obtain ⟨k, e, q⟩ := h
  have hl := line63
  have hs : sizeLine = 16777216 := sizeLine_eq
  cases x with
  | non =>
    cases rx
    have e' : k = false := e
    subst e'
    exact truthy_none ⟨H, I, q⟩
  | bl b =>
    cases rx
    have e' : k = b := e
    subst e'
    exact wpAny_truthy_bool ⟨H, I, q⟩
  | int i =>
    obtain ⟨t, rfl⟩ := rx
    have e' : k = (i != 0) := e
    subst e'
    exact PySem.P.truthy_int ⟨H, I, q⟩
  | str y =>
    obtain ⟨t, rfl⟩ := rx
    obtain ⟨hy, e'⟩ : y.length ≤ sizeLine ∧ k = ((y.length : Int) != 0) := e
    subst e'
    exact PySem.P.truthy_str (by omega) ⟨H, I.tok _, q⟩
  | byt y =>
    obtain ⟨t, rfl⟩ := rx
    obtain ⟨hy, e'⟩ : y.size ≤ sizeLine ∧ k = ((y.size : Int) != 0) := e
    subst e'
    exact PySem.W.truthy_bytes (by omega) ⟨H, I.tok _, q⟩
  | ref p =>
    cases rx
    have e' : (∃ xs, SqL X.K H p xs ∧ k = !xs.isEmpty) ∨ (∃ xs, SqT X.K H p xs ∧ k = !xs.isEmpty) ∨ ∃ kvs, H p = some (.dK kvs) ∧ k = !kvs.isEmpty := e
    rcases e' with ⟨xs, hx, e'⟩ | ⟨xs, hx, e'⟩ | ⟨kvs, hx, e'⟩
    · subst e'
      obtain ⟨its, r, pl, hz⟩ := I.list hx
      have hlen := r.length
      exact wpAny_truthy_list pl.isList (by simp only [List.size_toArray]; omega) ⟨H, I.tok _, by rw [isEmpty_of r]; exact q⟩
    · subst e'
      obtain ⟨its, r, pl, hz⟩ := I.tuple hx
      have hlen := r.length
      exact truthy_tuple pl (by simp only [List.size_toArray]; omega) ⟨H, I.tok _, by rw [isEmpty_of r]; exact q⟩
    · subst e'
      obtain ⟨hz, hS, vs, r, m⟩ : kvs.length ≤ sizeLine ∧ (p == sysModules) = false ∧ ∃ vs, KV kvs vs ∧ s.heap.DictOf (mixKind X.prog X.w) p vs := I.hok p _ hx
      have hlen : kvs.length = vs.length := Paired.length r
      exact wpAny_truthy_dict hS m (by omega) ⟨H, I.tok _, by rw [isEmpty_kv r]; exact q⟩
  | _ => exact (show False from e).elim
/-- any expression whose test is its value's truth (a name, a call, a subscript, a field ..: he by fun _ => rfl) -/
theorem pt_truth (ha : PE X a ta) (he : ∀ whole, isTrue a X.env whole = (do let v ← whole; standAt a.pos; holding [v] (truthy v))) :
    PT X a (fun σ H Q => ta σ H fun x H' => ∃ k, TruV X.K x H' k ∧ Q k H') := by
  intro pins s σ H Q I h
  exact isTrue_plain (thn (ha pins s σ H _ I h) fun v s1 ⟨x, H1, I1, r1, q1⟩ => tru_ok pins s1 σ H1 x v Q I1 r1 q1) (he _)

/-! ### strs and bytes -/
def PlainIxT (b : Expr) : Prop := ∀ o i, subscripted b false o i = operate [o, i] (getItem o i)
/-! ### scalar builtins, by CallR -/
theorem vals1 {x : V} {us : List Value} (r : Vals [x] us) : ∃ u, us = [u] ∧ RelV x u := by
  cases r with
  | cons r1 r2 => cases r2; exact ⟨_, rfl, r1⟩
theorem vals2 {x y : V} {us : List Value} (r : Vals [x, y] us) : ∃ u w', us = [u, w'] ∧ RelV x u ∧ RelV y w' := by
  cases r with
  | cons r1 r2 =>
    cases r2 with
    | cons r3 r4 => cases r4; exact ⟨_, _, rfl, r1, r3⟩
theorem call_int1 : CallR X (.type "int") (fun xs H Q => (∃ i, xs = [.int i] ∧ Q (.int i) H) ∨ ∃ k, xs = [.bl k] ∧ Q (.int (if k then 1 else 0)) H) := by
  intro pins s σ H xs us Q I r h
  rcases h with ⟨i, rfl, q⟩ | ⟨k, rfl, q⟩
  · obtain ⟨u, rfl, t, rfl⟩ := vals1 r
    exact call_int_int ⟨.int i, H, I, ⟨_, rfl⟩, q⟩
  · obtain ⟨u, rfl, r1⟩ := vals1 r
    cases r1
    exact call_int_bool ⟨.int (if k then 1 else 0), H, I.tok _, ⟨_, rfl⟩, q⟩
/-- len of a str, a bytes, a list, a tuple -/
def LenV (K : PySem.W.Frag) (x : V) (H : Hp) (n : Nat) : Prop :=
  match x with
  | .str y => y.length ≤ sizeLine ∧ n = y.length
  | .byt y => y.size ≤ sizeLine ∧ n = y.size
  | .ref p => (∃ xs, SqL K H p xs ∧ n = xs.length) ∨ ∃ xs, SqT K H p xs ∧ n = xs.length
  | _ => False
end
end L2

namespace L2
open PySem PySem.Spec PyProof.Rows

/-! ### an instance, its attributes a map -/
structure ObjM (h : Heap) (x dx C : Addr) (mA : Str → Option Value) : Prop where
  obj : h.get? x = some (PySem.W.instObj C dx)
  ns : h.Ns1 dx mA
  ne : dx ≠ x

theorem lookIn_ns {h : Heap} {dx : Addr} {mA : Str → Option Value} (n : h.Ns1 dx mA) : ∃ od, h.get? dx = some od ∧ ∀ name, PySem.W.lookIn name od = some (mA name) := by
  obtain ⟨o, es, ep, ho, hd, hk, _, hm⟩ := n
  refine ⟨o, ho, fun name => ?_⟩
  have e := hm name
  unfold nsFind findBy at e
  rw [← Array.find?_toList] at e
  unfold PySem.W.lookIn
  rw [hd]
  dsimp only
  split
  · rename_i y q
    rw [q] at e
    exact congrArg some e
  · rename_i q
    rw [q] at e
    have a : es.toList.any (·.refKey) = false := by
      rw [List.any_eq_false]
      intro y hy
      obtain ⟨z, t, hkey⟩ := hk y (Array.mem_toList_iff.mp hy)
      simp [DictEntry.refKey, hkey]
    have a' : ¬ es.toList.any (·.refKey) = true := by rw [a]; exact Bool.false_ne_true
    rw [if_neg a']
    exact congrArg some e

theorem ObjM.look {h : Heap} {x dx C : Addr} {mA : Str → Option Value} (I : ObjM h x dx C mA) : ∃ od, PySem.W.InstAt h x (PySem.W.instObj C dx) C (some od) ∧ ∀ name, PySem.W.lookIn name od = some (mA name) :=
  let ⟨od, ho, hl⟩ := lookIn_ns I.ns
  ⟨od, ⟨I.obj, rfl, rfl, ho⟩, hl⟩

section
variable {prog : Program} {w : World} {A : Around} {E : Value → Shared → Prop} {s : Shared} {K : PySem.W.Frag} {x dx C f : Addr} {mA : Str → Option Value} {name : Str} {v : Value}

end

/-! ### the attributes as a list of pairs -/
def putF (f : Str) (v : V) : List (Str × V) → List (Str × V)
  | [] => [(f, v)]
  | (g, x) :: r => if g = f then (g, v) :: r else (g, x) :: putF f v r
theorem RelO.some_of {v : V} {o : Option Value} (r : RelO (some v) o) : ∃ u, o = some u ∧ RelV v u := by
  cases o with
  | none => exact (show False from r).elim
  | some u => exact ⟨u, rfl, r⟩
section
variable {P : Program} {w : World} {H H' : Hp} {h h' : Heap} {a C dx : Addr} {fs fs' : List (Str × V)}
theorem ins_get (hok : HOk P w H h) (e : H a = some (.ins C dx fs)) : ∃ mA, ObjM h a dx C mA ∧ (∀ f, RelO (fs.lookup f) (mA f)) ∧ PySem.Within mA (fs.map (·.1)) ∧ fs.length ≤ 1000 ∧ H dx = some (.own a) := by
  obtain ⟨d, z, ne, ob, mA, n, r, q⟩ := (show ObjOk P w H h a (.ins C dx fs) from hok a _ e)
  exact ⟨mA, ⟨ob, n, ne⟩, r, q, z, d⟩
end

/-! ### what of the text a class must have -/
structure Cls (K : PySem.W.Frag) (C : Addr) : Prop where
  pg : PySem.W.plainGet K C Str.empty = true
  hd : PySem.W.hasDictIn K C = true
  po : PySem.W.plainOver K C = true
  sa : PySem.W.findIn K (.ref C) "__setattr__" = some (some (.builtin "object.__setattr__"))
theorem Cls.get {K : PySem.W.Frag} {C : Addr} (c : Cls K C) (f : Str) : PySem.W.plainGet K C f = true := c.pg
/-- no class of it has the name -/
def NoAttr (K : PySem.W.Frag) (C : Addr) (f : Str) : Prop := PySem.W.findIn K (.ref C) f = some none
/-- a constant of the class -/
structure Con (K : PySem.W.Frag) (C : Addr) (f : Str) (v : V) (u : Value) : Prop where
  at_ : PySem.W.findIn K (.ref C) f = some (some u)
  rel : RelV v u
  get : PySem.W.specialIn K u "__get__" = some none
  cp : PySem.W.copiedNames.contains f = false
/-- a method: a plain def of the class or of one above it -/
structure Meth (K : PySem.W.Frag) (C : Addr) (m : Str) (f : Addr) : Prop where
  at_ : PySem.W.findIn K (.ref C) m = some (some (.ref f))
  fn : PySem.W.isFn K (.ref f) = true
  kp : PySem.W.keepIn K (.ref f) = true

section
variable {X : Cx} {pins : List (Addr × Obj)} {σ : St} {H : Hp} {s : Shared} {a C dx : Addr} {fs : List (Str × V)} {f : Str} {v : V} {A : Around} {E : Value → Shared → Prop}

end

/-! ### readings and rules -/
/-- e.f, an attribute of the instance -/
def tFld (K : PySem.W.Frag) (ta : TE) (f : Str) : TE := fun σ H Q => ta σ H fun x H1 => ∃ a C dx fs v, x = .ref a ∧ H1 a = some (.ins C dx fs) ∧ Cls K C ∧ NoAttr K C f ∧ fs.lookup f = some v ∧ Q v H1
/-- e.f, a constant of the class -/
def tCon (K : PySem.W.Frag) (ta : TE) (f : Str) : TE := fun σ H Q => ta σ H fun x H1 => ∃ a C dx fs v u, x = .ref a ∧ H1 a = some (.ins C dx fs) ∧ Cls K C ∧ Con K C f v u ∧ fs.lookup f = none ∧ Q v H1
/-- e.f = value -/
def sFld (K : PySem.W.Frag) (ta tv : TE) (f : Str) : TS := fun D σ H => tv σ H fun y H1 => ta σ H1 fun x H2 => ∃ a C dx fs, x = .ref a ∧ H2 a = some (.ins C dx fs) ∧ Cls K C ∧ NoAttr K C f ∧ fs.length < 1000 ∧
  D.nx σ (upd H2 a (.ins C dx (putF f y fs)))
/-- an augmented operator on two values -/
def InOp (X : Cx) (op : Operator) (rd : V → V → Hp → VK → Prop) : Prop :=
  ∀ (pins : List (Addr × Obj)) (s : Shared) (σ : St) (H : Hp) (x y : V) (u v : Value) (Q : VK), Inv X pins σ H s → RelV x u → RelV y v → rd x y H Q → wpAny (model X.prog X.w) X.A (inplaceOp op u v) (EP X pins σ Q) X.xe s
/-- e.f op= value -/
def sFldAug (K : PySem.W.Frag) (ta tv : TE) (rd : V → V → Hp → VK → Prop) (f : Str) : TS := fun D σ H => ta σ H fun x H1 => ∃ a C dx fs v, x = .ref a ∧ H1 a = some (.ins C dx fs) ∧ Cls K C ∧ NoAttr K C f ∧ fs.lookup f = some v ∧
  tv σ H1 fun y H2 => rd v y H2 fun z H3 => ∃ dx' fs', H3 a = some (.ins C dx' fs') ∧ fs'.length < 1000 ∧ D.nx σ (upd H3 a (.ins C dx' (putF f z fs')))

section
variable {X : Cx} {o e value : Expr} {f : Str} {pos pos' tpos : Pos} {ta tv : TE}
def rAdd : V → V → Hp → VK → Prop := fun x y H Q => ∃ i j, x = .int i ∧ y = .int j ∧ Q (.int (i + j)) H
def rSub : V → V → Hp → VK → Prop := fun x y H Q => ∃ i j, x = .int i ∧ y = .int j ∧ Q (.int (i - j)) H
end

/-! ### isinstance -/
section
variable {X : Cx} {pins : List (Addr × Obj)} {σ : St} {H : Hp} {s : Shared} {A : Around} {E : Value → Shared → Prop} {Q : Value → Shared → Prop} {c : Value} {b : Bool}
/-- the type of a value, as the fragment's deciders take it; for an instance its class -/
inductive TyOf (K : PySem.W.Frag) (H : Hp) : V → Value → Prop where
  | non : TyOf K H .non (.type "NoneType")
  | bl (x : Bool) : TyOf K H (.bl x) (.type "bool")
  | int (i : Int) : TyOf K H (.int i) (.type "int")
  | str (x : Str) : TyOf K H (.str x) (.type "str")
  | flt (x : UInt64) : TyOf K H (.flt x) (.type "float")
  | lst {a : Addr} {xs : List V} (e : H a = some (.lst xs)) : TyOf K H (.ref a) (.type "list")
  | frz {a : Addr} {o : Obj} {xs : List V} (e : H a = some (.frz o (.lst xs))) : TyOf K H (.ref a) (.type "list")
  | tup {a : Addr} {xs : List V} (e : H a = some (.tup xs)) : TyOf K H (.ref a) (.type "tuple")
  | dK {a : Addr} {kvs : List (Key × V)} (e : H a = some (.dK kvs)) : TyOf K H (.ref a) (.type "dict")
  | dT {a : Addr} {kvs : List (List Key × V)} (e : H a = some (.dT kvs)) : TyOf K H (.ref a) (.type "dict")
  | ins {a C dx : Addr} {fs : List (Str × V)} (e : H a = some (.ins C dx fs)) (cl : Cls K C) (ha : PySem.W.findIn K (.ref C) "__class__" = some (some (.builtin "object.__class__")))
      (hn : PySem.W.specialIn K (.builtin "object.__class__") "__get__" = some (some (.builtin "getset_descriptor.__get__"))) (htk : PySem.W.takesIn K (.builtin "object.__class__") = some true)
      (hm : PySem.W.mroIn K C (.type "object") = some true) : TyOf K H (.ref a) (.ref C)
/-- isinstance(x, c) for one class c, a built-in or an own one: kitOne's answer -/
theorem isinst_ok {x : V} {u t : Value} (I : Inv X pins σ H s) (rx : RelV x u) (ty : TyOf X.K H x t) (e : PySem.W.kitOne X.K t c = some b) (h : ∀ tk, Q (.bool b) { s with toks := tk }) :
    wpAny (model X.prog X.w) A (call (.builtin "isinstance") [u, c]) Q E s := by
  cases ty with
  | non => cases (show u = Value.none from rx); exact PySem.W.kia_one PySem.W.kitx_none I.kIn True.intro e (fun z => nomatch z) h
  | bl y => cases (show u = Value.bool y from rx); exact PySem.W.kia_one PySem.W.kitx_bool I.kIn True.intro e (fun z => nomatch z) h
  | int i => obtain ⟨t, q⟩ := (show ∃ t, u = Value.int i t from rx); cases q; exact PySem.W.kia_one PySem.W.kitx_int I.kIn True.intro e (fun z => nomatch z) h
  | str y => obtain ⟨t, q⟩ := (show ∃ t, u = Value.str y t from rx); cases q; exact PySem.W.kia_one PySem.W.kitx_str I.kIn True.intro e (fun z => nomatch z) h
  | flt y => obtain ⟨t, q⟩ := (show ∃ t, u = Value.float y t from rx); cases q; exact PySem.W.kia_one PySem.W.kitx_float I.kIn True.intro e (fun z => nomatch z) h
  | @lst a xs ea =>
    cases (show u = Value.ref a from rx)
    obtain ⟨_, _, n, _, h1⟩ := (show ObjOk X.prog X.w H s.heap a (.lst xs) from I.hok a _ ea)
    exact PySem.W.kia_one PySem.W.kitx_list I.kIn ⟨_, h1, rfl⟩ e (fun z => nomatch z) h
  | @frz a ob xs ea =>
    cases (show u = Value.ref a from rx)
    obtain ⟨_, _, _, n, _, h1⟩ := (show ObjOk X.prog X.w H s.heap a (.frz ob (.lst xs)) from I.hok a _ ea)
    exact PySem.W.kia_one PySem.W.kitx_list I.kIn ⟨_, h1, rfl⟩ e (fun z => nomatch z) h
  | @tup a xs ea =>
    cases (show u = Value.ref a from rx)
    obtain ⟨_, _, _, p⟩ := (show ObjOk X.prog X.w H s.heap a (.tup xs) from I.hok a _ ea)
    obtain ⟨o, h1, h2, _⟩ := p
    exact PySem.W.kia_one PySem.W.kitx_tuple I.kIn ⟨o, h1, h2⟩ e (fun z => nomatch z) h
  | @dK a kvs ea =>
    cases (show u = Value.ref a from rx)
    obtain ⟨_, _, vs, _, p⟩ := (show ObjOk X.prog X.w H s.heap a (.dK kvs) from I.hok a _ ea)
    obtain ⟨o, es, ep, h1, h2, _⟩ := p
    exact PySem.W.kia_one PySem.W.kitx_dict I.kIn ⟨o, h1, h2.1⟩ e (fun z => nomatch z) h
  | @dT a kvs ea =>
    cases (show u = Value.ref a from rx)
    obtain ⟨_, _, xs, _, o, es, ep, h1, h2, _⟩ := (show ObjOk X.prog X.w H s.heap a (.dT kvs) from I.hok a _ ea)
    exact PySem.W.kia_one PySem.W.kitx_dict I.kIn ⟨o, h1, h2.1⟩ e (fun z => nomatch z) h
  | @ins a C dx fs ea cl ha hn htk hm =>
    cases (show u = Value.ref a from rx)
    obtain ⟨mA, O, _⟩ := ins_get I.hok ea
    obtain ⟨od, J, _⟩ := O.look
    exact PySem.W.kia_one (PySem.W.kitx_own (cl.get _) cl.hd ha hn htk hm) I.kIn J e (fun z => nomatch z) h
end
end L2

namespace L2
open PySem PySem.Spec PyProof.Rows

/-! ### room -/
structure Room (k : Nat) (A : Around) : Prop where
  hd : A.handled = none
  dp : A.depth + 3 * k + 5 < recursionLimit
  un : A.units + 16 * k + 200 < cLine
  gd : A.guards = some []
theorem Room.mono {j k : Nat} {A : Around} (r : Room k A) (h : j ≤ k) : Room j A := ⟨r.hd, by have := r.dp; omega, by have := r.un; omega, r.gd⟩
theorem Room.deeper {k : Nat} {A : Around} (r : Room (k + 1) A) (env : Env) : Room k (A.deeper env) :=
  ⟨r.hd, by have := r.dp; show A.depth + 1 + 3 * k + 5 < _; omega, by have := r.un; show A.units + 3 + 16 * k + 200 < _; omega, r.gd⟩
theorem Room.depth {k : Nat} {A : Around} (r : Room k A) : A.depth < recursionLimit := by have := r.dp; omega
theorem Room.units {k : Nat} {A : Around} (r : Room k A) : A.units + 64 < cLine := by have := r.un; omega
/-! ### argument lists and displays -/
def tNil : TA := fun _ H Q => Q [] H
def tCons (ta : TE) (tr : TA) : TA := fun σ H Q => ta σ H fun x H1 => tr σ H1 fun xs H2 => Q (x :: xs) H2
section
variable {X : Cx} {e : Expr} {es : List Expr} {te : TE} {t : TA} {pos : Pos}
theorem pa_nil : PA X [] tNil := fun _ _ _ _ H Q I h => Calls.spliced_nil ⟨[], H, I, .nil, h⟩
theorem pa_cons (ha : PE X e te) (hr : PA X es t) (hs : starEach (e :: es) X.env = (false, eval e X.env) :: starEach es X.env := by rfl) : PA X (e :: es) (tCons te t) := by
  intro pos pins s σ H Q I h
  rw [hs]
  show wpAny _ _ (spliced ((false, eval e X.env) :: backTo pos (starEach es X.env))) _ _ s
  refine Calls.spliced_cons (thn (ha pins s σ H _ I h) fun u s1 ⟨x, H1, I1, r1, q1⟩ => ?_)
  exact thn (hr pos pins s1 σ H1 _ I1 q1) fun us s2 ⟨xs, H2, I2, r2, q2⟩ => ⟨x :: xs, H2, I2, .cons r1 r2, q2⟩

/-- a tuple, a list of written items -/
def tTup (t : TA) : TE := fun σ H Q => t σ H fun xs H1 => xs.length ≤ sizeLine ∧ ∀ p, H1 p = none → Q (.ref p) (upd H1 p (.tup xs))
def tLst (t : TA) : TE := fun σ H Q => t σ H fun xs H1 => xs.length ≤ sizeLine ∧ ∀ p, H1 p = none → Q (.ref p) (upd H1 p (.lst xs))
theorem pe_tup {x1} (h : PA X es t) : PE X (.Tuple es x1 pos) (tTup t) := by
  intro pins s σ H Q I hq
  refine wpAny_Tuple_spliced (thn (h pos pins s σ H _ I hq) fun us s1 ⟨xs, H1, I1, r, z, q⟩ => ⟨by rw [← r.length]; exact z, ?_⟩)
  have hf : H1 s1.heap.objs.size = none := I1.hok.fresh (Nat.le_refl _)
  refine ⟨.ref s1.heap.objs.size, upd H1 s1.heap.objs.size (.tup xs), I1.laid (t' := s1.toks) (fun b u e => Heap.get?_push_of_some _ e) (Nat.le_refl _) ?_, rfl, q _ hf⟩
  exact ⟨z, us, r, ⟨_, Heap.get?_push_size _ rfl, rfl, _, rfl⟩⟩
theorem pe_lst (h : PA X es t) : PE X (.List es pos) (tLst t) := by
  intro pins s σ H Q I hq
  refine wpAny_List_spliced (thn (h pos pins s σ H _ I hq) fun us s1 ⟨xs, H1, I1, r, z, q⟩ => ⟨by rw [← r.length]; exact z, ?_⟩)
  have hf : H1 s1.heap.objs.size = none := I1.hok.fresh (Nat.le_refl _)
  refine ⟨.ref s1.heap.objs.size, upd H1 s1.heap.objs.size (.lst xs), I1.laid (t' := s1.toks) (fun b u e => Heap.get?_push_of_some _ e) (Nat.le_refl _) ?_, rfl, q _ hf⟩
  exact ⟨z, us, 0, r, Heap.get?_push_size _ rfl⟩
end

/-! ### what a def promises -/
/-- a def's promise: the bound arguments in the parameters' order, the heap, the wanted end, the wanted exception -/
abbrev Sp := List V → Hp → VK → XK → Prop
/-- how an exception lies behind a call (file 08 gives it): the callers' frames, abstract heap and state ahead of the call, the wish, the exception, the state -/
abbrev CXT := List Env → Hp → Shared → XK → Value → Shared → Prop

/-- the state at a call -/
structure Env0 (P : Program) (w : World) (K : PySem.W.Frag) (mg : Str → Option Value) (base : Heap) (A : Around) (outer : List Env) (s : Shared) (H : Hp) : Prop where
  frames : A.frames = some outer
  mod : Mod K mg base
  bs : ∀ b o, base.get? b = some o → s.heap.get? b = some o ∧ H b = none
  bsz : base.objs.size ≤ s.heap.objs.size
  funs : s.heap.FunFrames base outer
  frf : ∀ b ∈ frs outer, H b = none
  hok : HOk P w H s.heap
  bare : AllBare s.gens
/-- a call's end -/
def CE (outer : List Env) (P : Program) (w : World) (H : Hp) (s : Shared) (Q : VK) (u : Value) (s' : Shared) : Prop :=
  ∃ v H', s'.os = s.os ∧ AllBare s'.gens ∧ Un (frs outer) [] H H' s.heap s'.heap ∧ HOk P w H' s'.heap ∧ RelV v u ∧ Q v H'
def CR (CX : CXT) (outer : List Env) (P : Program) (w : World) (H : Hp) (s : Shared) (Q : VK) (E : XK) (r : Result) (s' : Shared) : Prop :=
  match r with
  | .ok (.ret u) => CE outer P w H s Q u s'
  | .ok _ => False
  | .error e => CX outer H s E e s'
structure FnOk (P : Program) (w : World) (K : PySem.W.Frag) (mg : Str → Option Value) (base : Heap) (CX : CXT) (k : Nat) (f : Addr) (fd : FuncData) (ps : List Str) (sp : Sp) : Prop where
  len : ∀ vs H Q E, sp vs H Q E → vs.length = ps.length
  run : ∀ (A : Around) (outer : List Env) (s : Shared) (H : Hp) (args : Args) (us : List Value) (vs : List V) (Q : VK) (E : XK), Room k A → Env0 P w K mg base A outer s H → BindsTo s fd args (ps.zip us) → Vals vs us → sp vs H Q E →
    codeAny (model P w) A (.call (.ref f) args) (CR CX outer P w H s Q E) s
section
variable {X : Cx} {pins : List (Addr × Obj)} {σ : St} {H : Hp} {s s' : Shared}
/-- from a body: what a callee wants -/
theorem Inv.env0 (I : Inv X pins σ H s) : Env0 X.prog X.w X.K X.mg X.base X.A X.stack s H :=
  ⟨I.ok.frames, I.ok.mod, I.bs, Nat.le_trans I.ok.bsz I.sz, I.stack, I.stkFree, I.hok, I.bare⟩
/-- behind a call -/
theorem Inv.after {Q : VK} {u : Value} (I : Inv X pins σ H s) (h : CE X.stack X.prog X.w H s Q u s') : EP X pins σ Q u s' := by
  obtain ⟨v, H', os, bare, un, hok, r, q⟩ := h
  obtain ⟨hh, g, d, t, os'⟩ := s'
  obtain rfl : os' = s.os := os
  exact ⟨v, H', I.call (h' := hh) (g' := g) (d' := d) (t' := t) (ch := []) un hok bare (fun b z => absurd z (by simp)), r, q⟩
end

/-! ### calls -/
/-- f(..): the written arguments, then the defaults dvs; E: what is wanted of an exception -/
def tCall (sp : Sp) (dvs : List V) (E : XK) (t : TA) : TE := fun σ H Q => t σ H fun vs H1 => sp (vs ++ dvs) H1 Q E
/-- o.m(..) of an instance of the class at C -/
def tMeth (C : Addr) (m : Str) (sp : Sp) (dvs : List V) (E : XK) (ta : TE) (t : TA) : TE := fun σ H Q => ta σ H fun x H1 => ∃ a dx fs, x = .ref a ∧ H1 a = some (.ins C dx fs) ∧ fs.lookup m = none ∧
  t σ H1 fun vs H2 => sp (x :: (vs ++ dvs)) H2 Q E
/-- C(..): a new instance and its dict, then __init__ -/
def tMake (C : Addr) (sp : Sp) (dvs : List V) (E : XK) (t : TA) : TE := fun σ H Q => t σ H fun vs H1 => ∀ x dx, H1 x = none → H1 dx = none → dx ≠ x →
  sp (.ref x :: (vs ++ dvs)) (upd (upd H1 dx (.own x)) x (.ins C dx [])) (fun v H2 => v = .non ∧ Q (.ref x) H2) E

/-- how the parameters are bound: us the positional arguments, kw the keywords' values by name, ds the defaults that fill up -/
def Binds (K : PySem.W.Frag) (fd : FuncData) (ps : List Str) (ds : List Value) : Prop :=
  ∀ (s : Shared) (us : List Value), K.In s.heap → (us ++ ds).length = ps.length → BindsTo s fd ⟨us, []⟩ (ps.zip (us ++ ds))
/-- every parameter is given -/
theorem Binds.all {K : PySem.W.Frag} {fd : FuncData} {ps : List Str} (h : ∀ us : List Value, us.length = ps.length → bindArgs fd ⟨us, []⟩ = pure (ps.zip us)) : Binds K fd ps [] := fun s us _ hl => by
  rw [List.append_nil] at hl ⊢
  exact .of_eq (h us hl)

/-- an exception of a callee reaches what this body wants of exceptions -/
def Passes (CX : CXT) (X : Cx) (E : XK) : Prop := ∀ (pins : List (Addr × Obj)) (σ : St) (H : Hp) (s : Shared) (e : Value) (s' : Shared), Inv X pins σ H s → CX X.stack H s E e s' → X.xe e s'

section
variable {X : Cx} {CX : CXT} {k : Nat} {f C : Addr} {fd : FuncData} {ps : List Str} {sp : Sp} {dvs : List V} {ds : List Value} {E : XK} {x m : Str} {p pos apos : Pos} {e o : Expr} {es : List Expr} {ta : TE} {t : TA}

/-- the callee runs -/
theorem run_fn {pins : List (Addr × Obj)} {σ : St} {H : Hp} {s : Shared} {Q : VK} {us : List Value} {vs : List V} (F : FnOk X.prog X.w X.K X.mg X.base CX k f fd ps sp) (hr : Room k X.A) (hb : Binds X.K fd ps ds) (hd : Vals dvs ds) (hx : Passes CX X E)
    (I : Inv X pins σ H s) (r : Vals vs us) (h : sp (vs ++ dvs) H Q E) : wpAny (model X.prog X.w) X.A (call (.ref f) us) (EP X pins σ Q) X.xe s := by
  have r2 : Vals (vs ++ dvs) (us ++ ds) := r.append hd
  have hl : (us ++ ds).length = ps.length := by rw [← r2.length]; exact F.len _ _ _ _ h
  refine wpAny_call (codeAny_mono (F.run X.A X.stack s H ⟨us, []⟩ (us ++ ds) (vs ++ dvs) Q E hr I.env0 (hb s us I.kIn hl) r2 h) fun r s' hq => ?_)
  cases r with
  | error e => exact hx pins σ H s e s' I hq
  | ok fl =>
    cases fl with
    | ret u => exact I.after hq
    | next => exact False.elim hq
    | brk => exact False.elim hq
    | cont => exact False.elim hq

theorem pe_call (F : FnOk X.prog X.w X.K X.mg X.base CX k f fd ps sp) (hr : Room k X.A) (hg : Gl X x) (hm : X.mg x = some (.ref f)) (hk : PySem.W.keepIn X.K (.ref f) = true) (hb : Binds X.K fd ps ds) (hd : Vals dvs ds) (hx : Passes CX X E)
    (ha : PA X (e :: es) t) (hdb : (x == ("__debug__" : Str)) = false := by decide) (he : starEach (e :: es) X.env = (false, eval e X.env) :: starEach es X.env := by rfl) (hpl : (backTo pos (starEach es X.env)).any (·.1) = false := by rfl) :
    PE X (.Call (.Name x p) (e :: es) [] pos) (tCall sp dvs E t) := by
  intro pins s σ H Q I h
  refine wpAny_Call_Name_kw (ld_glob I hg hm ?_ hdb)
  refine PySem.W.callWith_K (h₀ := X.base) I.ok.mod.kin hk (thn (ha pos pins s σ H _ I h) fun us s1 ⟨vs, H1, I1, r, q⟩ => ⟨I1.kIn, ?_⟩) he hpl
  exact run_fn F hr hb hd hx I1 r q
/-- what a class must have to be made -/
structure Mk (K : PySem.W.Frag) (C f : Addr) : Prop where
  makes : PySem.W.makesIn K C = true
  init : PySem.W.findIn K (.ref C) "__init__" = some (some (.ref f))
  fn : PySem.W.isFn K (.ref f) = true
  kp : PySem.W.keepIn K (.ref C) = true

end

/-! ### keywords -/
/-- the values of the keywords, from the left -/
def PK (X : Cx) (kws : List Keyword) (t : TA) : Prop :=
  ∀ (pos : Pos) (pins : List (Addr × Obj)) (s : Shared) (σ : St) (H : Hp) (Q : List V → Hp → Prop), Inv X pins σ H s → t σ H Q → wpAny (model X.prog X.w) X.A (evalAll ((backToKw pos (keywordEach kws X.env)).map (·.2))) (AP X pins σ Q) X.xe s
section
variable {X : Cx} {CX : CXT} {k : Nat} {f C : Addr} {fd : FuncData} {ps ks : List Str} {sp : Sp} {E : XK} {x m : Str} {p pos apos kpos : Pos} {e o : Expr} {es : List Expr} {kws : List Keyword} {te ta : TE} {t tk : TA} {nm : Option Str}
/-- how a call with keywords binds: g puts the positional values us and the keywords' values ws (names ks) in the parameters' order, defaults among them -/
structure KBinds (K : PySem.W.Frag) (fd : FuncData) (ps ks : List Str) (g : List Value → List Value → List Value) (gV : List V → List V → List V) : Prop where
  to : ∀ (s : Shared) (us ws : List Value), K.In s.heap → (g us ws).length = ps.length → BindsTo s fd ⟨us, ks.zip ws⟩ (ps.zip (g us ws))
  rel : ∀ {vs : List V} {us : List Value} {zs : List V} {ws : List Value}, Vals vs us → Vals zs ws → Vals (gV vs zs) (g us ws)
def tCallK (sp : Sp) (gV : List V → List V → List V) (E : XK) (t tk : TA) : TE := fun σ H Q => t σ H fun vs H1 => tk σ H1 fun zs H2 => sp (gV vs zs) H2 Q E
variable {g : List Value → List Value → List Value} {gV : List V → List V → List V}
end

/-! ### a def's body keeps its promise -/
/-- names: the parameters first -/
structure FnScope (N P : List Str) (sc : Scope) : Prop where
  kind : sc.kind = .function
  co : sc.isCoroutine = false
  gen : sc.isGenerator = false
  nd : N.Nodup
  pre : N.take P.length = P
  par : ∀ x ∈ P, sc.names.lookup x = some .local ∨ sc.names.lookup x = some .cell
  nofree : ∀ y ∈ sc.names, y.2 ≠ .free

theorem bindL_out {kindOf : Str → Option NameKind} {x : Str} : ∀ {binds : List (Str × Value)} {m : Str → Option Value}, (∀ v, (x, v) ∉ binds) → bindL kindOf binds m x = m x
  | [], _, _ => rfl
  | (n, v) :: r, m, h => by
    unfold bindL
    rw [bindL_out fun w hw => h w (List.mem_cons_of_mem _ hw)]
    split
    · have : x ≠ n := by rintro rfl; exact h v List.mem_cons_self
      simp [this]
    · rfl
theorem bindC_out {kindOf : Str → Option NameKind} {x : Str} : ∀ {binds : List (Str × Value)} {m : Str → Option Value}, (∀ v, (x, v) ∉ binds) → bindC kindOf binds m x = m x
  | [], _, _ => rfl
  | (n, v) :: r, m, h => by
    unfold bindC
    rw [bindC_out fun w hw => h w (List.mem_cons_of_mem _ hw)]
    split
    · rfl
    · have : x ≠ n := by rintro rfl; exact h v List.mem_cons_self
      simp [this]
theorem bindL_get {kindOf : Str → Option NameKind} {x : Str} {v : Value} : ∀ {P : List Str} {vs : List Value} {i : Nat} {m : Str → Option Value}, P.Nodup → P[i]? = some x → vs[i]? = some v → kindOf x = some .local →
    bindL kindOf (P.zip vs) m x = some v
  | [], _, _, _, _, h, _, _ => by simp at h
  | _ :: _, [], _, _, _, _, h, _ => by simp at h
  | p :: P, w :: vs, 0, m, nd, h1, h2, hk => by
    simp at h1 h2; subst h1; subst h2
    show bindL kindOf ((p, w) :: P.zip vs) m p = _
    unfold bindL
    rw [bindL_out fun v hv => (List.nodup_cons.mp nd).1 (List.of_mem_zip hv).1, if_pos hk]
    simp
  | p :: P, w :: vs, i + 1, m, nd, h1, h2, hk => by
    show bindL kindOf ((p, w) :: P.zip vs) m x = _
    unfold bindL
    exact bindL_get (i := i) (List.nodup_cons.mp nd).2 (by simpa using h1) (by simpa using h2) hk
theorem bindC_get {kindOf : Str → Option NameKind} {x : Str} {v : Value} : ∀ {P : List Str} {vs : List Value} {i : Nat} {m : Str → Option Value}, P.Nodup → P[i]? = some x → vs[i]? = some v → kindOf x ≠ some .local →
    bindC kindOf (P.zip vs) m x = some v
  | [], _, _, _, _, h, _, _ => by simp at h
  | _ :: _, [], _, _, _, _, h, _ => by simp at h
  | p :: P, w :: vs, 0, m, nd, h1, h2, hk => by
    simp at h1 h2; subst h1; subst h2
    show bindC kindOf ((p, w) :: P.zip vs) m p = _
    unfold bindC
    rw [bindC_out fun v hv => (List.nodup_cons.mp nd).1 (List.of_mem_zip hv).1, if_neg hk]
    simp
  | p :: P, w :: vs, i + 1, m, nd, h1, h2, hk => by
    show bindC kindOf ((p, w) :: P.zip vs) m x = _
    unfold bindC
    exact bindC_get (i := i) (List.nodup_cons.mp nd).2 (by simpa using h1) (by simpa using h2) hk

/-- the names' values at the entry -/
def start (N : List Str) (vs : List V) : St := vs.map some ++ List.replicate (N.length - vs.length) none

/-- the context of a def's body, at its entry; an exception leaves the frame, then lies as CX says -/
def cxOf (CX : CXT) (P : Program) (w : World) (K : PySem.W.Frag) (mg : Str → Option Value) (base : Heap) (N : List Str) (qual : Str) (scope : Scope) (f : Addr) (cd : Value) (A : Around) (outer : List Env) (s : Shared) (H : Hp) (E : XK) : Cx where
  prog := P
  w := w
  K := K
  mg := mg
  base := base
  A := A.deeper (envOfC qual scope s.heap.objs.size f cd)
  N := N
  s₀ := s
  H₀ := H
  env := envOfC qual scope s.heap.objs.size f cd
  outer := outer
  stack := envOfC qual scope s.heap.objs.size f cd :: outer
  ex := []
  calm := true
  fn := fun _ => true
  pn := []
  xe := fun e s' => wpAny (model P w) (A.deeper (envOfC qual scope s.heap.objs.size f cd)) (leaving (envOfC qual scope s.heap.objs.size f cd) e) (fun _ s'' => CX outer H s E e s'') (fun e' s'' => CX outer H s E e' s'') s'

theorem cell_has {sc : Scope} {n : Nat} {x : Str} (h : sc.names.lookup x = some .cell) : ∃ c, (cellsFrom n sc.names []).lookup x = some c := by
  have q := PySem.W.cellsFrom_some sc.names n [] (.inl h)
  exact Option.isSome_iff_exists.mp q

theorem inv_start {CX : CXT} {P : Program} {w : World} {K : PySem.W.Frag} {mg : Str → Option Value} {base : Heap} {N ps : List Str} {qual : Str} {scope : Scope} {f : Addr} {cd : Value} {A : Around} {outer : List Env} {s s1 : Shared} {H : Hp} {E : XK} {us : List Value} {vs : List V}
    (S : FnScope N ps scope) (hd : A.handled = none) (e0 : Env0 P w K mg base A outer s H) (hl : vs.length = ps.length) (r : Vals vs us)
    (x : InCallC s s.heap.objs.size (bindL (envOfC qual scope s.heap.objs.size f cd).kindOf (ps.zip us) fun _ => none) (cellsFrom (s.heap.objs.size + 1) scope.names []) (bindC (envOfC qual scope s.heap.objs.size f cd).kindOf (ps.zip us) fun _ => none) s1) :
    Inv (cxOf CX P w K mg base N qual scope f cd A outer s H E) [] (start N vs) H s1 := by
  have hpl : ps.length ≤ N.length := by have := congrArg List.length S.pre; rw [List.length_take] at this; omega
  obtain ⟨h1, tk, rfl, hk⟩ := x.done
  have noA : ∀ b : Addr, b ∉ (cxOf CX P w K mg base N qual scope f cd A outer s H E).ex := fun b z => absurd (show b ∈ ([] : List Addr) from z) (by simp)
  refine ⟨⟨e0.mod, S.kind, rfl, rfl, Nat.le_refl _, fun y z c h1 h2 => ?_, fun y hy => ?_, fun y c _ h => ?_, fun _ => hd, Around.frames_deeper e0.frames, .inr ⟨rfl, rfl⟩, fun b z => absurd z (noA b), e0.bs, e0.bsz, fun b _ _ => noA b, fun b z => absurd z (noA b), e0.funs, e0.frf⟩,
    rfl, e0.bare, Un.kept hk, ⟨_, x.toInCall.ns, fun i y v h1 h2 h3 => ?_⟩, fun y c h => ⟨_, x.cell y c h⟩, e0.hok.fresh (Nat.le_refl _), fun y c h => ?_, fun p hp => absurd (show p ∈ ([] : List (Addr × Obj)) from hp) (by simp), e0.hok.kept hk, ?_⟩
  · exact name_of_addr x.apart (PySem.mem_of_lookup h1) (PySem.mem_of_lookup h2)
  · have hy : scope.names.lookup y = some .cell ∨ scope.names.lookup y = some .free := hy
    rcases hy with hy | hy
    · exact cell_has hy
    · exact absurd rfl (S.nofree _ (PySem.mem_of_lookup hy))
  · exact Nat.le_of_lt (x.above y c (PySem.mem_of_lookup h))
  · have hi : i < vs.length := by
      unfold start at h2
      by_cases hi : i < vs.length
      · exact hi
      · rw [List.getElem?_append_right (by simpa using hi)] at h2
        rw [List.getElem?_replicate] at h2
        split at h2 <;> cases h2
    have ha : vs[i]? = some v := by
      unfold start at h2
      rw [List.getElem?_append_left (by simpa using hi), List.getElem?_map] at h2
      cases e : vs[i]? with
      | none => rw [e] at h2; cases h2
      | some a => rw [e] at h2; cases h2; rfl
    obtain ⟨u, hu, rv⟩ := r.get ha
    have hp : ps[i]? = some y := by
      rw [← S.pre, List.getElem?_take_of_lt (by omega)]; exact h1
    have ndP : ps.Nodup := by rw [← S.pre]; exact S.nd.sublist (List.take_sublist _ _)
    refine ⟨u, rv, ?_⟩
    rcases S.par y (List.mem_of_getElem? hp) with k | k
    · exact .inl ⟨k, bindL_get ndP hp hu k⟩
    · obtain ⟨c, e⟩ := cell_has (n := s.heap.objs.size + 1) k
      refine .inr ⟨.inl k, c, e, ?_⟩
      have q := x.cell y c e
      rw [bindC_get ndP hp hu (by show scope.names.lookup y ≠ _; rw [k]; decide)] at q
      exact q
  · exact e0.hok.fresh (Nat.le_of_lt (x.above y c (PySem.mem_of_lookup h)))
  · unfold start
    show _ = N.length
    rw [List.length_append, List.length_map, List.length_replicate]
    omega

/-- THE RULE: a def (or a method) of the text, by its body. The body's reading t is chosen for each entry; it is run at the parameters' values -/
theorem fn_of {CX : CXT} {P : Program} {w : World} {K : PySem.W.Frag} {mg : Str → Option Value} {base : Heap} {k : Nat} {f : Addr} {name qual : Str} {params : Arguments} {body : List Stmt} {scope : Scope} {dV kV doc pm cdv ct oc : Value} {an od : Option Addr}
    {osl : Array (Option Value)} {N ps : List Str} {sp : Sp} (lk : K.lookup f = some ⟨oc, od, .func (PySem.W.fnOf name qual params body scope dV kV doc pm an cdv ct), osl⟩) (hcd : PySem.W.codeIn K cdv qual = true) (S : FnScope N ps scope)
    (len : ∀ vs H Q E, sp vs H Q E → vs.length = ps.length)
    (hbody : ∀ (A : Around) (outer : List Env) (s : Shared) (H : Hp) (vs : List V) (Q : VK) (E : XK), Room k (A.deeper (envOfC qual scope s.heap.objs.size f cdv)) → sp vs H Q E →
      ∃ t, PSs (cxOf CX P w K mg base N qual scope f cdv A outer s H E) body t ∧ t { nx := fun _ H' => Q .non H', rt := Q } (start N vs) H) :
    FnOk P w K mg base CX (k + 1) f (PySem.W.fnOf name qual params body scope dV kV doc pm an cdv ct) ps sp := by
  refine ⟨len, fun A outer s H args us vs Q E hr e0 hb r hsp => ?_⟩
  have hl := len _ _ _ _ hsp
  have KX : K.In s.heap := e0.mod.kin.keeps fun b o e => (e0.bs b o e).1
  have lim : s.heap.NoLimit := e0.mod.nolimit.keeps fun b o e => (e0.bs b o e).1
  have hkind : ∀ y ∈ ps.zip us, scope.names.lookup y.1 = some .local ∨ (scope.names.lookup y.1 = some .cell ∧ ((cellsFrom (s.heap.objs.size + 1) scope.names []).lookup y.1).isSome = true) := fun ⟨n, v⟩ hy => by
    rcases S.par n (List.of_mem_zip hy).1 with q | q
    · exact .inl q
    · exact .inr ⟨q, PySem.W.cellsFrom_some _ _ _ (.inl q)⟩
  refine codeAny_call_function hr.depth (KX _ _ lk) rfl S.co S.gen rfl (PySem.W.codeRec_of KX hcd) (hb _ _ _ _ ?_)
  refine wpAny_newFunctionEnv_cells S.kind hkind fun env he s1 x => ?_
  subst he
  refine ⟨lim.keeps x.toInCall.keep, codeAny_func ?_⟩
  obtain ⟨t, ht, hq⟩ := hbody A outer s H vs Q E (hr.deeper _) hsp
  have I : Inv (cxOf CX P w K mg base N qual scope f cdv A outer s H E) [] (start N vs) H s1 := inv_start S hr.hd e0 hl r x
  refine wpAny_mono (ht [] s1 (start N vs) H _ I hq) (fun fl s' hs => ?_) fun e s' hs => hs
  have fin : ∀ {σ' : St} {H' : Hp} {v : V} {u : Value}, Inv (cxOf CX P w K mg base N qual scope f cdv A outer s H E) [] σ' H' s' → RelV v u → Q v H' → CE outer P w H s Q u s' :=
    fun {σ' H' v u} J rv q => ⟨v, H', J.os, J.bare, J.base, J.hok, rv, q⟩
  cases fl with
  | ret u =>
    obtain ⟨v, σ', H', J, rv, q⟩ := hs
    exact fin J rv q
  | next =>
    obtain ⟨σ', H', J, q⟩ := hs
    exact fin (v := V.non) (u := Value.none) J rfl q
  | brk =>
    obtain ⟨_, _, _, q⟩ := hs
    exact False.elim q
  | cont =>
    obtain ⟨_, _, _, q⟩ := hs
    exact False.elim q
end L2

namespace L2
open PySem PySem.Spec PyProof.Rows
section
variable {X : Cx} {x : Str} {p pos : Pos} {e : Expr} {es : List Expr} {t : TA} {id T : String} {r : List V → Hp → VK → Prop}

def tCB (r : List V → Hp → VK → Prop) (t : TA) : TE := fun σ H Q => t σ H fun vs H1 => r vs H1 Q
/-- f(e, ..), f a built-in function -/
theorem pe_callB (hc : CallR X (.builtin id) r) (hg : Gl X x) (hm : X.mg x = none) (hv : bootBuiltins x = some (.builtin id)) (ha : PA X (e :: es) t) (hn : x ≠ "__name__" := by decide) (hdb : (x == ("__debug__" : Str)) = false := by decide)
    (he : starEach (e :: es) X.env = (false, eval e X.env) :: starEach es X.env := by rfl) (hpl : (backTo pos (starEach es X.env)).any (·.1) = false := by rfl) : PE X (.Call (.Name x p) (e :: es) [] pos) (tCB r t) := by
  intro pins s σ H Q I h
  refine wpAny_Call_Name_kw (ld_blt I hg hm hv ?_ hn hdb)
  exact PyProof.Rows.callWith_builtin1 (thn (ha pos pins s σ H _ I h) fun us s1 ⟨vs, H1, I1, r1, q1⟩ => hc pins s1 σ H1 vs us Q I1 r1 q1) he hpl
/-- T(e, ..), T a built-in type -/
theorem pe_callTy (hc : CallR X (.type T) r) (hg : Gl X x) (hm : X.mg x = none) (hv : bootBuiltins x = some (.type T)) (ha : PA X (e :: es) t) (hn : x ≠ "__name__" := by decide) (hdb : (x == ("__debug__" : Str)) = false := by decide)
    (he : starEach (e :: es) X.env = (false, eval e X.env) :: starEach es X.env := by rfl) (hpl : (backTo pos (starEach es X.env)).any (·.1) = false := by rfl) : PE X (.Call (.Name x p) (e :: es) [] pos) (tCB r t) := by
  intro pins s σ H Q I h
  refine wpAny_Call_Name_kw (ld_blt I hg hm hv ?_ hn hdb)
  exact PyProof.Rows.callWith_type1 (thn (ha pos pins s σ H _ I h) fun us s1 ⟨vs, H1, I1, r1, q1⟩ => hc pins s1 σ H1 vs us Q I1 r1 q1) he hpl
end
end L2

namespace HT
open PySem PyProof.Rows

/-- t < u of tuples of ints -/
def lexLt : List Int → List Int → Bool
  | [], [] => false
  | [], _ :: _ => true
  | _ :: _, [] => false
  | x :: xs, y :: ys => if x = y then lexLt xs ys else decide (x < y)
section
open PySem.SeqAt
open PySem.AutoSeq1 (wpAny_loadPart')
open PySem.MeetsSeq PySem.MeetsSeq2 PySem.MeetsSeq3

end

section
variable {prog : Program} {w : World} {A : Around} {E : Value → Shared → Prop} {s : Shared}

/-! ### t[a:b], not the whole -/
/-- a slice's bound as a place among n (d where it is left out) -/
def sIx (n d : Nat) : Option Int → Nat
  | none => d
  | some v => if v < 0 then (v + (n : Int)).toNat else min v.toNat n
end
end HT

namespace L2
open PySem PySem.Spec PyProof.Rows

/-! ### the parts of a slice -/
abbrev TO := St → Hp → (Option Int → Hp → Prop) → Prop
/-- a slice's part (left out, or an int) -/
def PO (X : Cx) (e : Option Expr) (t : TO) : Prop :=
  ∀ (pins : List (Addr × Obj)) (s : Shared) (σ : St) (H : Hp) (Q : Option Int → Hp → Prop), Inv X pins σ H s → t σ H Q →
    wpAny (model X.prog X.w) X.A (evalPart e X.env) (fun u s' => ∃ o H', Inv X pins σ H' s' ∧ IsPart u o ∧ Q o H') X.xe s
def tNoPart : TO := fun _ H Q => Q none H
def tPart (t : TE) : TO := fun σ H Q => t σ H fun x H1 => ∃ i, x = .int i ∧ Q (some i) H1

section
variable {X : Cx} {e : Expr} {te : TE} {lo hi : Option Expr} {tl th : TO} {pos p2 : Pos}

theorem po_none : PO X none tNoPart := by
  intro pins s σ H Q I h
  rw [evalPart_none]
  exact wpAny_pure ⟨none, H, I, .none, h⟩
theorem po_some (h : PE X e te) : PO X (some e) (tPart te) := by
  intro pins s σ H Q I hw
  rw [evalPart_some]
  refine thn (h pins s σ H _ I hw) fun u s1 ⟨x, H1, I1, r1, q1⟩ => ?_
  obtain ⟨i, rfl, q⟩ := q1
  obtain ⟨t, rfl⟩ := r1
  exact ⟨some i, H1, I1, .int i t, q⟩

/-- what a slice of a value is, by values: the slice object stands at sl -/
def SlR (X : Cx) (r : V → Option Int → Option Int → Hp → VK → Prop) : Prop :=
  ∀ (pins : List (Addr × Obj)) (s : Shared) (σ : St) (H : Hp) (x : V) (v vl vu : Value) (lo hi : Option Int) (sl : Addr) (Q : VK), Inv X pins σ H s → RelV x v → s.heap.IsSliceOf sl vl vu .none → IsPart vl lo → IsPart vu hi → r x lo hi H Q →
    ∃ T id, typeLookup (.type T) "__getitem__" = pure (some (.builtin id)) ∧ s.TypeIs v T ∧ wpAny (model X.prog X.w) X.A (getItem v (.ref sl)) (EP X pins σ Q) X.xe s
def tSl (r : V → Option Int → Option Int → Hp → VK → Prop) (te : TE) (tl th : TO) : TE := fun σ H Q => te σ H fun x H1 => tl σ H1 fun l H2 => th σ H2 fun u H3 => r x l u H3 Q
/-- a[lo:hi], any a -/
theorem pe_slice {r : V → Option Int → Option Int → Hp → VK → Prop} (hr : SlR X r) (he : PE X e te) (hl : PO X lo tl) (hu : PO X hi th) : PE X (.Subscript e (.Slice lo hi none p2) pos) (tSl r te tl th) := by
  intro pins s σ H Q I h
  refine Subscript_ (thn (he pins s σ H _ I h) fun v s1 ⟨x, H1, I1, r1, q1⟩ => ?_)
  refine wpAny_Slice (thn (hl pins s1 σ H1 _ I1 q1) fun vl s2 ⟨l, H2, I2, pl, q2⟩ => thn (hu pins s2 σ H2 _ I2 q2) fun vu s3 ⟨u, H3, I3, pu, q3⟩ => ?_)
  rw [evalPart_none]
  refine wpAny_pure ?_
  have I4 : Inv X pins σ H3 { s3 with heap := s3.heap.push { cls := .type "slice", data := .fields #[vl, vu, .none] } } := I3.kept (t' := s3.toks) fun b ob q => Heap.get?_push_of_some _ q
  obtain ⟨T, id, hT, ht, hg⟩ := hr pins { s3 with heap := s3.heap.push { cls := .type "slice", data := .fields #[vl, vu, .none] } } σ H3 x v vl vu l u s3.heap.objs.size Q I4 r1 (Heap.IsSliceOf.new ..) pl pu q3
  show wpAny (model X.prog X.w) X.A (subscriptTail e (.Slice lo hi none p2) v (.ref s3.heap.objs.size)) (EP X pins σ Q) X.xe { s3 with heap := s3.heap.push { cls := .type "slice", data := .fields #[vl, vu, .none] } }
  exact tail_any (ops := [.ref s3.heap.objs.size, v]) ht hT hg (by with_unfolding_all rfl)

/-- the items of xs[lo:hi] -/
def cutV (xs : List V) (lo hi : Option Int) : List V := (xs.drop (HT.sIx xs.length 0 lo)).take (HT.sIx xs.length xs.length hi - HT.sIx xs.length 0 lo)
theorem cutV_length (xs : List V) (lo hi : Option Int) : (cutV xs lo hi).length ≤ xs.length := by
  unfold cutV
  rw [List.length_take, List.length_drop]
  omega
/-- t[lo:hi], not the whole of it (the whole would be t itself) -/
def rSlT (K : PySem.W.Frag) : V → Option Int → Option Int → Hp → VK → Prop := fun x lo hi H Q => ∃ a xs, x = .ref a ∧ SqT K H a xs ∧
  ¬ (HT.sIx xs.length 0 lo = 0 ∧ HT.sIx xs.length xs.length hi = xs.length) ∧ ∀ p, H p = none → Q (.ref p) (upd H p (.tup (cutV xs lo hi)))
/-! ### t < u, t + u -/
def rLtT (K : PySem.W.Frag) : R2 := fun x y H Q => ∃ a b ns ms, x = .ref a ∧ y = .ref b ∧ SqT K H a (ns.map V.int) ∧ SqT K H b (ms.map V.int) ∧ Q (.bl (HT.lexLt ns ms)) H
/-- t + u, t not empty: u empty gives t itself -/
def rCatT (K : PySem.W.Frag) : R2 := fun x y H Q => ∃ a b xs ys, x = .ref a ∧ y = .ref b ∧ SqT K H a xs ∧ SqT K H b ys ∧ xs ≠ [] ∧ xs.length + ys.length ≤ sizeLine ∧
  (ys = [] → Q (.ref a) H) ∧ (ys ≠ [] → ∀ p, H p = none → Q (.ref p) (upd H p (.tup (xs ++ ys))))
end
end L2

namespace L2
open PySem PySem.Spec PyProof.Rows

/-! ### places -/
/-- the place that an index of any sign means -/
def ixN (n : Nat) (i : Int) : Option Nat := if 0 ≤ i then (if i < n then some i.toNat else none) else if -(n : Int) ≤ i then some (i + n).toNat else none
def atI {α : Type} (xs : List α) (i : Int) : Option α := (ixN xs.length i).bind fun j => xs[j]?
theorem ixN_seq {n : Nat} {i : Int} {j : Nat} (h : ixN n i = some j) : seqIndex? i n = some j ∧ j < n ∧ -(n : Int) ≤ i ∧ i < n := by
  unfold ixN at h
  by_cases h0 : 0 ≤ i
  · rw [if_pos h0] at h
    by_cases h1 : i < n
    · rw [if_pos h1] at h
      have e : i.toNat = j := Option.some.inj h
      exact ⟨by rw [seqIndex_of h0 h1, e], by omega, by omega, h1⟩
    · rw [if_neg h1] at h; cases h
  · rw [if_neg h0] at h
    by_cases h1 : -(n : Int) ≤ i
    · rw [if_pos h1] at h
      have e : (i + n).toNat = j := Option.some.inj h
      exact ⟨by rw [seqIndex_neg (by omega) h1, e], by omega, h1, by omega⟩
    · rw [if_neg h1] at h; cases h
theorem atI_get {α : Type} {xs : List α} {i : Int} {v : α} (h : atI xs i = some v) : ∃ j, seqIndex? i xs.length = some j ∧ xs[j]? = some v ∧ j < xs.length ∧ -(xs.length : Int) ≤ i ∧ i < xs.length := by
  unfold atI at h
  cases e : ixN xs.length i with
  | none => rw [e] at h; cases h
  | some j =>
    rw [e] at h
    obtain ⟨h1, h2, h3, h4⟩ := ixN_seq e
    exact ⟨j, h1, h, h2, h3, h4⟩
theorem atI_nat {α : Type} {xs : List α} {j : Nat} {v : α} (h : xs[j]? = some v) : atI xs (j : Int) = some v := by
  have hj : j < xs.length := (List.getElem?_eq_some_iff.mp h).1
  have e : ixN xs.length (j : Int) = some j := by
    unfold ixN
    rw [if_pos (by omega), if_pos (by omega)]; simp
  unfold atI; rw [e]; exact h
/-! ### what may be subscripted -/
/-- what stands as an index of a plain subscript -/
def PlainIx (b : Expr) : Prop := ∀ o i, subscripted b false o i = operate [o, i] (getItem o i)
/-- a subscript by values -/
def IxR (X : Cx) (r : R2) : Prop :=
  ∀ (value slice : Expr) (pins : List (Addr × Obj)) (s : Shared) (σ : St) (H : Hp) (x y : V) (v u : Value) (Q : VK), Inv X pins σ H s → RelV x v → RelV y u → r x y H Q →
    subscripted slice false v u = operate [v, u] (getItem v u) → wpAny (model X.prog X.w) X.A (subscriptTail value slice v u) (EP X pins σ Q) X.xe s
/-- a call of a builtin's method by values: the receiver, the arguments -/
def MtR (X : Cx) (id : String) (r : V → List V → Hp → VK → Prop) : Prop :=
  ∀ (pins : List (Addr × Obj)) (s : Shared) (σ : St) (H : Hp) (x : V) (xs : List V) (v : Value) (us : List Value) (Q : VK), Inv X pins σ H s → RelV x v → Vals xs us → r x xs H Q →
    wpAny (model X.prog X.w) X.A (call (.builtin id) (v :: us)) (EP X pins σ Q) X.xe s
section
variable {X : Cx} {a b : Expr} {ta tb : TE} {pos : Pos}
/-- a[b] -/
theorem pe_ix {r : R2} (hr : IxR X r) (ha : PE X a ta) (hb : PE X b tb) (hs : PlainIx b) : PE X (.Subscript a b pos) (tOp r ta tb) := by
  intro pins s σ H Q I h
  exact Subscript_ (binT ha hb I h fun v u s2 x y H2 I2 rx ry q => hr a b pins s2 σ H2 x y v u Q I2 rx ry q (hs _ _))

def rIxL (K : PySem.W.Frag) : R2 := fun x y H Q => ∃ p xs i v, x = .ref p ∧ y = .int i ∧ SqL K H p xs ∧ atI xs i = some v ∧ Q v H
def rIxT (K : PySem.W.Frag) : R2 := fun x y H Q => ∃ p xs i v, x = .ref p ∧ y = .int i ∧ SqT K H p xs ∧ atI xs i = some v ∧ Q v H
def rIxS : R2 := fun x y H Q => ∃ z i c, x = .str z ∧ y = .int i ∧ z.length ≤ sizeLine ∧ atI z.cps.toList i = some c ∧ Q (.str ⟨#[c]⟩) H
theorem ix_list : IxR X (rIxL X.K) := by
  intro value slice pins s σ H x y v u Q I rx ry h hs
  obtain ⟨p, xs, i, z, rfl, rfl, hq, he, q⟩ := h
  cases rx
  obtain ⟨t, rfl⟩ := ry
  obtain ⟨its, r, pl, hz⟩ := I.list hq
  obtain ⟨j, h1, h2, h3, h4, h5⟩ := atI_get he
  obtain ⟨w, ew, rw'⟩ := r.get h2
  have hl := r.length
  have hn := line63
  have fin : EP X pins σ Q w s := ⟨z, H, I, rw', q⟩
  by_cases h0 : 0 ≤ i
  · have hj : i.toNat = j := by
      rw [seqIndex_of h0 h5] at h1
      exact Option.some.inj h1
    exact item_listR pl.isList h0 (by omega) (by rw [hj]; simpa using ew) fin hs
  · have hj : (i + (its.toArray.size : Int)).toNat = j := by
      rw [seqIndex_neg (by omega) h4] at h1
      rw [List.size_toArray, ← hl]
      exact Option.some.inj h1
    exact subscriptTail_builtinR (x := w) pl.isList.typeIs slot_list_getitem.lookup
      (wpAny_getItem_list_neg (Q := fun r s' => r = w ∧ EP X pins σ Q r s') pl.isList (by omega) (by rw [List.size_toArray] <;> omega) (by omega) (by rw [hj]; simpa using ew) ⟨rfl, fin⟩) hs
theorem ix_tup : IxR X (rIxT X.K) := by
  intro value slice pins s σ H x y v u Q I rx ry h hs
  obtain ⟨p, xs, i, z, rfl, rfl, hq, he, q⟩ := h
  cases rx
  obtain ⟨t, rfl⟩ := ry
  obtain ⟨its, r, pl, hz⟩ := I.tuple hq
  obtain ⟨j, h1, h2, h3, h4, h5⟩ := atI_get he
  obtain ⟨w, ew, rw'⟩ := r.get h2
  have hl := r.length
  have hn := line63
  have fin : EP X pins σ Q w s := ⟨z, H, I, rw', q⟩
  exact subscriptTail_builtinR (x := w) pl.typeIs slot_tuple_getitem.lookup
    (getItem_tuple (j := j) (Q := fun r s' => r = w ∧ EP X pins σ Q r s') pl (by omega) (by omega) (by rw [List.size_toArray, ← hl]; exact h1) (by simpa using ew) ⟨rfl, fin⟩) hs
theorem ix_str : IxR X rIxS := by
  intro value slice pins s σ H x y v u Q I rx ry h hs
  obtain ⟨z, i, c, rfl, rfl, hz, he, q⟩ := h
  obtain ⟨t, rfl⟩ := rx
  obtain ⟨t', rfl⟩ := ry
  obtain ⟨j, h1, h2, h3, h4, h5⟩ := atI_get he
  have hl : z.cps.toList.length = z.length := by simp [Str.length]
  rw [hl] at h1 h4 h5
  have hn := line63
  exact tail_any (typeIs_str s z t) slot_str_getitem.lookup (getItem_str (c := c) (by
    have e1 : decide (i < -(2 ^ 63 : Int)) = false := decide_eq_false (by omega)
    have e2 : decide (i ≥ 2 ^ 63) = false := decide_eq_false (by omega)
    rw [e1, e2, Bool.or_false]) (by rw [h1]; simpa using h2) ⟨.str ⟨#[c]⟩, H, I.tok _, ⟨_, rfl⟩, q⟩) hs
/-- list, tuple or str -/
def rIx (K : PySem.W.Frag) : R2 := fun x y H Q => rIxL K x y H Q ∨ rIxT K x y H Q ∨ rIxS x y H Q
/-! ### xs[i] = v, any sign -/
/-- the list's object behind a store -/
theorem mapSeq_set (its : List Value) (n j : Nat) (u : Value) : Obj.mapSeq (·.setIfInBounds j u) { cls := .type "list", data := .seq its.toArray n } = { cls := .type "list", data := .seq (its.set j u).toArray n } := by
  simp [Obj.mapSeq]
theorem Inv.lst {pins : List (Addr × Obj)} {σ : St} {H : Hp} {s : Shared} {p : Addr} {xs : List V} (I : Inv X pins σ H s) (h : H p = some (.lst xs)) :
    ∃ (its : List Value) (n : Nat), Vals xs its ∧ s.heap.get? p = some { cls := .type "list", data := .seq its.toArray n } ∧ xs.length ≤ sizeLine := by
  obtain ⟨z, its, n, r, e⟩ := I.hok p _ h
  exact ⟨its, n, r, e, z⟩
/-- the list at p is written by an update of its object -/
theorem Inv.lstUpd {pins : List (Addr × Obj)} {σ : St} {H : Hp} {s : Shared} {p : Addr} {xs ys : List V} {its its' : List Value} {n n' : Nat} {f : Obj → Obj} (I : Inv X pins σ H s) (h : H p = some (.lst xs))
    (ho : s.heap.get? p = some { cls := .type "list", data := .seq its.toArray n }) (hf : f { cls := .type "list", data := .seq its.toArray n } = { cls := .type "list", data := .seq its'.toArray n' }) (r : Vals ys its') (hz : ys.length ≤ sizeLine) (t : Nat) :
    Inv X pins σ (upd H p (.lst ys)) { s with heap := s.heap.update p f, toks := t } := by
  have e : (s.heap.update p f).get? p = some { cls := .type "list", data := .seq its'.toArray n' } := by
    rw [Heap.get?_update_self f ho (by rw [hf] <;> rfl), hf]
  refine I.write (x := p) (e := p) (by rw [h]; trivial) (.inl rfl) (fun b u hb q => (Heap.get?_update_other _ _ (Ne.symm hb)).trans q) ⟨_, e⟩ ?_
  exact ⟨hz, its', n', r, e⟩
def rSetL : V → V → V → Hp → (Hp → Prop) → Prop := fun o i v H Q => ∃ p xs k j, o = .ref p ∧ i = .int k ∧ H p = some (.lst xs) ∧ ixN xs.length k = some j ∧ Q (upd H p (.lst (xs.set j v)))
theorem set_list : PSet X rSetL := by
  intro pins s σ H o i v ov iv u Q I ro ri rv h
  obtain ⟨p, xs, k, j, rfl, rfl, hp, hj, q⟩ := h
  cases ro
  obtain ⟨t, rfl⟩ := ri
  obtain ⟨its, n, r, ho, hz⟩ := I.lst hp
  obtain ⟨h1, h2, h3, h4⟩ := ixN_seq hj
  have hl := r.length
  have hn := line63
  have I' : Inv X pins σ (upd H p (.lst (xs.set j v))) { s with heap := s.heap.update p (Obj.mapSeq (·.setIfInBounds j u)) } :=
    I.lstUpd hp ho (mapSeq_set its n j u) (r.set rv j) (by rw [List.length_set]; exact hz) s.toks
  by_cases h0 : 0 ≤ k
  · have hk : k.toNat = j := by
      rw [seqIndex_of h0 h4] at h1
      exact Option.some.inj h1
    exact PySem.W.ki_setAt ho h0 (by omega) (by rw [List.size_toArray, ← hl]; exact h4) (by rw [hk]; exact ⟨_, I', q⟩)
  · have hk : (k + (its.toArray.size : Int)).toNat = j := by
      rw [seqIndex_neg (by omega) h3] at h1
      rw [List.size_toArray, ← hl]
      exact Option.some.inj h1
    exact PySem.W.ki_setBack ho (by omega) (by rw [List.size_toArray, ← hl]; exact h3) (by omega) (by rw [hk]; exact ⟨_, I', q⟩)

/-! ### slices -/
theorem slice_bounds (lo hi : Option Int) (n : Nat) : (sliceBounds lo hi none n).1 = ((HT.sIx n 0 lo : Nat) : Int) ∧ (sliceBounds lo hi none n).2.1 = ((HT.sIx n n hi : Nat) : Int) ∧ (sliceBounds lo hi none n).2.2 = 1 := by
  refine ⟨?_, ?_, rfl⟩
  · cases lo with
    | none => simp [sliceBounds, HT.sIx]
    | some i =>
      simp only [sliceBounds, HT.sIx, Option.getD_none, show (1 : Int) > 0 by decide, if_true]
      by_cases h : i < 0
      · simp only [h, if_true] <;> omega
      · simp only [h, if_false] <;> omega
  · cases hi with
    | none => simp [sliceBounds, HT.sIx]
    | some i =>
      simp only [sliceBounds, HT.sIx, Option.getD_none, show (1 : Int) > 0 by decide, if_true]
      by_cases h : i < 0
      · simp only [h, if_true] <;> omega
      · simp only [h, if_false] <;> omega
theorem slicePick_cut (its : List Value) (lo hi : Option Int) : slicePick its.toArray lo hi none = ((its.drop (HT.sIx its.length 0 lo)).take (HT.sIx its.length its.length hi - HT.sIx its.length 0 lo)).toArray := by
  obtain ⟨h1, h2, h3⟩ := slice_bounds lo hi its.toArray.size
  unfold slicePick
  rw [h1, h2, h3]
  simp only [sliceRange_one, pick_run, List.size_toArray] <;> rfl
/-- xs[lo:hi] of a list: a new list -/
def rSlL (K : PySem.W.Frag) : V → Option Int → Option Int → Hp → VK → Prop := fun x lo hi H Q => ∃ a xs, x = .ref a ∧ SqL K H a xs ∧ ∀ p, H p = none → Q (.ref p) (upd H p (.lst (cutV xs lo hi)))
theorem sl_list : SlR X (rSlL X.K) := by
  intro pins s σ H x v vl vu lo hi sl Q I rx hs pl pu h
  obtain ⟨a, xs, rfl, hx, q⟩ := h
  cases rx
  obtain ⟨its, r, ht, hz⟩ := I.list hx
  have hlen := r.length
  refine ⟨"list", _, slot_list_getitem.lookup, ht.isList.typeIs, ?_⟩
  refine wpAny_getItem_list_slice ht.isList hs pl pu .none (by simp) ?_ (by rw [List.size_toArray] <;> omega)
  rw [slicePick_cut, ← hlen]
  refine ⟨.ref s.heap.objs.size, _, I.laid (t' := s.toks) (o := .lst (cutV xs lo hi)) (fun b ob q => Heap.get?_push_of_some _ q) (Nat.le_refl _) ?_, rfl, q _ (I.hok.fresh (Nat.le_refl _))⟩
  exact ⟨Nat.le_trans (cutV_length xs lo hi) hz, _, 0, (r.drop (HT.sIx xs.length 0 lo)).take (HT.sIx xs.length xs.length hi - HT.sIx xs.length 0 lo), Heap.get?_push_size _ rfl⟩

/-! ### in, not in: flat items -/
def flatV : V → Bool
  | .non => true
  | .bl _ => true
  | .int _ => true
  | .str _ => true
  | _ => false
/-- == of flat values -/
def eqV : V → V → Bool
  | .non, .non => true
  | .bl a, .bl b => a == b
  | .bl a, .int b => (if a then 1 else 0) == b
  | .int a, .bl b => a == (if b then 1 else 0)
  | .int a, .int b => a == b
  | .str a, .str b => a == b
  | _, _ => false
theorem eqAt_V {A : Around} {s : Shared} {y x : V} {u v : Value} (ry : RelV y u) (rx : RelV x v) (fy : flatV y = true) (fx : flatV x = true) : SeqAt.EqAt A s u v (eqV y x) := by
  cases y with
  | non =>
    cases ry
    cases x with
    | non => cases rx; exact SeqAt.EqAt.same _
    | bl b => cases rx; exact SeqAt.EqAt.none_bool b
    | int b => obtain ⟨t, rfl⟩ := rx; exact SeqAt.EqAt.none_int b t
    | str b => obtain ⟨t, rfl⟩ := rx; exact SeqAt.EqAt.none_str b t
    | _ => exact absurd (show false = true from fx) Bool.false_ne_true
  | bl a =>
    cases ry
    cases x with
    | non => cases rx; exact SeqAt.EqAt.bool_none a
    | bl b => cases rx; exact SeqAt.EqAt.bool_bool a b
    | int b => obtain ⟨t, rfl⟩ := rx; exact SeqAt.EqAt.bool_int a b t
    | str b => obtain ⟨t, rfl⟩ := rx; exact SeqAt.EqAt.bool_str a b t
    | _ => exact absurd (show false = true from fx) Bool.false_ne_true
  | int a =>
    obtain ⟨t', rfl⟩ := ry
    cases x with
    | non => cases rx; exact SeqAt.EqAt.int_none a t'
    | bl b => cases rx; exact SeqAt.EqAt.int_bool a t' b
    | int b => obtain ⟨t, rfl⟩ := rx; exact SeqAt.EqAt.int_int a t' b t
    | str b => obtain ⟨t, rfl⟩ := rx; exact SeqAt.EqAt.int_str a t' b t
    | _ => exact absurd (show false = true from fx) Bool.false_ne_true
  | str a =>
    obtain ⟨t', rfl⟩ := ry
    cases x with
    | non => cases rx; exact SeqAt.EqAt.str_none a t'
    | bl b => cases rx; exact SeqAt.EqAt.str_bool a t' b
    | int b => obtain ⟨t, rfl⟩ := rx; exact SeqAt.EqAt.str_int a t' b t
    | str b => obtain ⟨t, rfl⟩ := rx; exact SeqAt.EqAt.str_str a t' b t
    | _ => exact absurd (show false = true from fx) Bool.false_ne_true
  | _ => exact absurd (show false = true from fy) Bool.false_ne_true
/-- the items' answers, read off the values (a value's own answer does not lean on its token) -/
def eqU (x : V) (u : Value) : Bool := match u with
  | .none => eqV .non x
  | .bool b => eqV (.bl b) x
  | .int i _ => eqV (.int i) x
  | .str z _ => eqV (.str z) x
  | _ => false
theorem eqU_of {x y : V} {u : Value} (r : RelV y u) (f : flatV y = true) : eqU x u = eqV y x := by
  cases y with
  | non => cases r; rfl
  | bl b => cases r; rfl
  | int i => obtain ⟨t, rfl⟩ := r; rfl
  | str z => obtain ⟨t, rfl⟩ := r; rfl
  | _ => exact absurd (show false = true from f) Bool.false_ne_true
theorem any_eqU {x : V} : ∀ {xs : List V} {us : List Value}, Vals xs us → xs.all flatV = true → us.any (eqU x) = xs.any fun y => eqV y x
  | _, _, .nil, _ => rfl
  | y :: xs, u :: us, .cons r t, f => by
    rw [List.all_cons, Bool.and_eq_true] at f
    rw [List.any_cons, List.any_cons, eqU_of r f.1, any_eqU t f.2]
theorem mem_eqAt {A : Around} {s : Shared} {x : V} {v : Value} (rx : RelV x v) (fx : flatV x = true) : ∀ {xs : List V} {us : List Value}, Vals xs us → xs.all flatV = true → ∀ u ∈ us, SeqAt.EqAt A s u v (eqU x u)
  | _, _, .nil, _ => fun u hu => by cases hu
  | y :: xs, u :: us, .cons r t, f => fun u' hu => by
    rw [List.all_cons, Bool.and_eq_true] at f
    rcases List.mem_cons.mp hu with rfl | hu
    · rw [eqU_of r f.1]; exact eqAt_V r rx f.1 fx
    · exact mem_eqAt rx fx t f.2 u' hu
def inV (x : V) (xs : List V) : Bool := xs.any fun y => eqV y x
/-- x in a list or tuple of flat items -/
def rIn (K : PySem.W.Frag) (neg : Bool) : R2 := fun x y H Q => ∃ p xs, y = .ref p ∧ (SqL K H p xs ∨ SqT K H p xs) ∧ flatV x = true ∧ xs.all flatV = true ∧ Q (.bl (if neg then !inV x xs else inV x xs)) H
theorem op_in_seq : OpR X (compareOp .In) (rIn X.K false) := by
  intro pins s σ H x y v u Q I rx ry h
  obtain ⟨p, xs, rfl, hq, fx, fs, q⟩ := h
  cases ry
  rcases hq with hq | hq
  · obtain ⟨its, r, pl, hz⟩ := I.list hq
    refine SeqAt.in_listAt (eqU x) pl.isList (fun w hw => mem_eqAt rx fx r fs w (by simpa using hw)) ⟨.bl _, H, I, rfl, ?_⟩
    rw [show its.toArray.any (eqU x) = its.any (eqU x) by simp, any_eqU r fs]
    exact q
  · obtain ⟨its, r, pl, hz⟩ := I.tuple hq
    refine SeqAt.in_tupleAt (eqU x) pl (fun w hw => mem_eqAt rx fx r fs w (by simpa using hw)) ⟨.bl _, H, I, rfl, ?_⟩
    rw [show its.toArray.any (eqU x) = its.any (eqU x) by simp, any_eqU r fs]
    exact q
theorem op_notIn_seq : OpR X (compareOp .NotIn) (rIn X.K true) := by
  intro pins s σ H x y v u Q I rx ry h
  obtain ⟨p, xs, rfl, hq, fx, fs, q⟩ := h
  cases ry
  rcases hq with hq | hq
  · obtain ⟨its, r, pl, hz⟩ := I.list hq
    refine SeqAt.notIn_listAt (eqU x) pl.isList (fun w hw => mem_eqAt rx fx r fs w (by simpa using hw)) ⟨.bl _, H, I, rfl, ?_⟩
    rw [show its.toArray.any (eqU x) = its.any (eqU x) by simp, any_eqU r fs]
    exact q
  · obtain ⟨its, r, pl, hz⟩ := I.tuple hq
    refine SeqAt.notIn_tupleAt (eqU x) pl (fun w hw => mem_eqAt rx fx r fs w (by simpa using hw)) ⟨.bl _, H, I, rfl, ?_⟩
    rw [show its.toArray.any (eqU x) = its.any (eqU x) by simp, any_eqU r fs]
    exact q
/-! ### len, list(x), tuple(x) of any list or tuple that is read -/
theorem call_len_seq : CallR X (.builtin "len") (fun xs H Q => ∃ p ys, xs = [.ref p] ∧ (SqL X.K H p ys ∨ SqT X.K H p ys) ∧ Q (.int ys.length) H) := by
  intro pins s σ H xs us Q I r h
  obtain ⟨p, ys, rfl, hq, q⟩ := h
  obtain ⟨u, rfl, rx⟩ := vals1 r
  cases rx
  have hn := line63
  rcases hq with hq | hq
  · obtain ⟨its, r', pl, hz⟩ := I.list hq
    have hlen := r'.length
    exact Calls.call_len_list pl.isList (by simp only [List.size_toArray] <;> omega) ⟨.int ys.length, H, I.tok _, ⟨s.toks + 1, by rw [List.size_toArray, hlen]⟩, q⟩
  · obtain ⟨its, r', pl, hz⟩ := I.tuple hq
    have hlen := r'.length
    exact len_tuple pl (by simp only [List.size_toArray] <;> omega) ⟨.int ys.length, H, I.tok _, ⟨s.toks + 1, by rw [List.size_toArray, hlen]⟩, q⟩
theorem call_len_str : CallR X (.builtin "len") (fun xs H Q => ∃ z, xs = [.str z] ∧ z.length ≤ sizeLine ∧ Q (.int z.length) H) := by
  intro pins s σ H xs us Q I r h
  obtain ⟨z, rfl, hz, q⟩ := h
  obtain ⟨u, rfl, t, rfl⟩ := vals1 r
  have hn := line63
  exact len_str (by omega) ⟨.int z.length, H, I.tok _, ⟨_, rfl⟩, q⟩
/-! ### the call of a builtin's method: o.m(..) -/
/-- the value is of that builtin type -/
def tyV (K : PySem.W.Frag) (T : String) (x : V) (H : Hp) : Prop := match x with
  | .str _ => T = "str"
  | .int _ => T = "int"
  | .ref p => (T = "list" ∧ ∃ xs, SqL K H p xs) ∨ (T = "tuple" ∧ ∃ o, K.lookup p = some o ∧ o.cls = .type "tuple" ∧ o.dict = none) ∨
      (T = "dict" ∧ ((∃ kvs, H p = some (.dK kvs)) ∨ ∃ kvs, H p = some (.dT kvs))) ∨ (T = "set" ∧ ∃ S n, H p = some (.set S n))
  | _ => False
theorem tyV_is {pins : List (Addr × Obj)} {σ : St} {H : Hp} {s : Shared} {T : String} {x : V} {v : Value} (I : Inv X pins σ H s) (r : RelV x v) (ty : tyV X.K T x H) :
    s.TypeIs v T ∧ ∀ a, v = .ref a → ∃ ob, s.heap.get? a = some ob ∧ ob.dict = none := by
  cases x with
  | str z =>
    obtain ⟨t, rfl⟩ := r
    cases (show T = "str" from ty)
    exact ⟨typeIs_str s z t, fun _ e => nomatch e⟩
  | int i =>
    obtain ⟨t, rfl⟩ := r
    cases (show T = "int" from ty)
    exact ⟨typeIs_int s i t, fun _ e => nomatch e⟩
  | ref p =>
    cases r
    rcases ty with ⟨rfl, xs, hq⟩ | ⟨rfl, o, hk, hc, hd⟩ | ⟨rfl, hk⟩ | ⟨rfl, S, n, hk⟩
    · obtain ⟨its, _, pl, _⟩ := I.list hq
      refine ⟨pl.isList.typeIs, fun a e => ?_⟩
      cases e
      obtain ⟨o, n, e, c, hd, _⟩ := pl
      exact ⟨o, e, hd⟩
    · refine ⟨⟨o, I.kIn p o hk, hc⟩, fun a e => ?_⟩
      cases e
      exact ⟨o, I.kIn _ o hk, hd⟩
    · have z : ∃ o, s.heap.get? p = some o ∧ o.ExactDict := by
        rcases hk with ⟨kvs, hk⟩ | ⟨kvs, hk⟩
        · obtain ⟨_, _, _, _, o, _, _, e, ex, _⟩ := I.hok p _ hk
          exact ⟨o, e, ex⟩
        · obtain ⟨_, _, _, _, o, _, _, e, ex, _⟩ := I.hok p _ hk
          exact ⟨o, e, ex⟩
      obtain ⟨o, e, ex⟩ := z
      refine ⟨⟨o, e, ex.1⟩, fun a e2 => ?_⟩
      cases e2
      exact ⟨o, e, ex.2.1⟩
    · obtain ⟨o, _, _, _, e, ex, _⟩ := I.hok p _ hk
      refine ⟨⟨o, e, ex.1⟩, fun a e2 => ?_⟩
      cases e2
      exact ⟨o, e, ex.2.1⟩
  | _ => exact False.elim ty
def tBM0 (K : PySem.W.Frag) (T : String) (r : V → List V → Hp → VK → Prop) (to : TE) : TE := fun σ H Q => to σ H fun x H1 => tyV K T x H1 ∧ r x [] H1 Q
def tBM (K : PySem.W.Frag) (T : String) (r : V → List V → Hp → VK → Prop) (to : TE) (t : TA) : TE := fun σ H Q => to σ H fun x H1 => tyV K T x H1 ∧ t σ H1 fun xs H2 => r x xs H2 Q
variable {o e : Expr} {es : List Expr} {to : TE} {t : TA} {name : Str} {apos cpos : Pos} {T id : String} {r : V → List V → Hp → VK → Prop}
theorem pe_bm0 (pa : PlainAttrs T) (slot : Slot T name id) (hty : typeOf (.builtin id) = pure (.type "method_descriptor")) (hm : MtR X id r) (ho : PE X o to)
    (hbase : attributeBase o name X.env (eval o X.env) = eval o X.env := by rfl) (hline : (apos.endLine == cpos.line) = true := by rfl) : PE X (.Call (.Attribute o name apos) [] [] cpos) (tBM0 X.K T r to) := by
  intro pins s σ H Q I h
  refine wpAny_Call_method0_late hbase hline (thn (ho pins s σ H _ I h) fun v s1 ⟨x, H1, I1, r1, ty, q1⟩ => ?_)
  obtain ⟨h1, h2⟩ := tyV_is I1 r1 ty
  exact ⟨T, id, pa, slot, hty, h1, h2, Calls.callWith_builtin rfl (PySem.evalArgs_none (hm pins s1 σ H1 x [] v [] Q I1 r1 .nil q1))⟩
theorem pe_bm (pa : PlainAttrs T) (slot : Slot T name id) (hty : typeOf (.builtin id) = pure (.type "method_descriptor")) (hm : MtR X id r) (ho : PE X o to) (ha : PA X (e :: es) t)
    (hbase : attributeBase o name X.env (eval o X.env) = eval o X.env := by rfl)
    (hfew : ((backTo cpos (starEach (e :: es) X.env)).all (fun x => !x.1) && (backToKw cpos (keywordEach [] X.env)).all (fun x => x.1.isSome)
      && decide ((e :: es).length + ([] : List Keyword).length + (if ([] : List Keyword).isEmpty then 0 else 1) < 30)) = true := by rfl)
    (hline : (apos.endLine == cpos.line) = true := by rfl) (hs : starEach (e :: es) X.env = (false, eval e X.env) :: starEach es X.env := by rfl) (hplain : (backTo cpos (starEach es X.env)).any (·.1) = false := by rfl) :
    PE X (.Call (.Attribute o name apos) (e :: es) [] cpos) (tBM X.K T r to t) := by
  intro pins s σ H Q I h
  refine wpAny_Call_method_late hbase hfew hline rfl (thn (ho pins s σ H _ I h) fun v s1 ⟨x, H1, I1, r1, ty, q1⟩ => ?_)
  obtain ⟨h1, h2⟩ := tyV_is I1 r1 ty
  refine ⟨T, id, pa, slot, hty, h1, h2, ?_⟩
  have hA := ha cpos pins s1 σ H1 _ I1 q1
  rw [hs] at hA ⊢
  refine Calls.callWith_builtin (by show (false || (backTo cpos (starEach es X.env)).any (·.1)) = false; rw [hplain] <;> rfl) (Calls.evalArgs_plain ?_)
  exact thn hA fun us s2 ⟨vs, H2, I2, r2, q2⟩ => hm pins s2 σ H2 x vs v us Q I2 r1 r2 q2
/- xs.append(e), list.index on a module's tuple .. are MtR facts of 06m -/
end
end L2

namespace L2
open PySem PySem.Spec PyProof.Rows

def MtM (X : Cx) (id : String) (r : V → List V → Hp → VK → Prop) : Prop :=
  ∀ (pins : List (Addr × Obj)) (s : Shared) (σ : St) (H : Hp) (x : V) (xs : List V) (v : Value) (us : List Value) (Q : VK), Inv X pins σ H s → RelV x v → Vals xs us → r x xs H Q →
    wpAny (model X.prog X.w) X.A (call (.builtin id) (v :: us)) (EP X pins σ Q) X.xe s

/-! ### lists of values -/
theorem Vals.one : ∀ {x : V} {us : List Value}, Vals [x] us → ∃ u, us = [u] ∧ RelV x u
  | _, _, .cons r .nil => ⟨_, rfl, r⟩
theorem Vals.zero : ∀ {us : List Value}, Vals [] us → us = []
  | _, .nil => rfl
theorem Vals.dropLast {xs : List V} {us : List Value} (h : Vals xs us) : Vals xs.dropLast us.dropLast := by
  induction h with
  | nil => exact .nil
  | cons r t ih =>
    cases t with
    | nil => exact .nil
    | cons q t' => exact .cons r ih
theorem Vals.rep {xs : List V} {us : List Value} (h : Vals xs us) : ∀ k : Nat, Vals (List.replicate k xs).flatten (List.replicate k us).flatten
  | 0 => .nil
  | k + 1 => by
    rw [List.replicate_succ, List.replicate_succ, List.flatten_cons, List.flatten_cons]
    exact Vals.append h (Vals.rep h k)
theorem erase_last {α : Type} (l : List α) : l.eraseIdx (l.length - 1) = l.dropLast := by
  induction l with
  | nil => rfl
  | cons a r ih =>
    cases r with
    | nil => rfl
    | cons b r =>
      have e : (a :: b :: r).length - 1 = ((b :: r).length - 1) + 1 := by
        have h1 : (a :: b :: r).length = r.length + 2 := rfl
        have h2 : (b :: r).length = r.length + 1 := rfl
        omega
      rw [e, List.eraseIdx_cons_succ, ih]
      all_goals rfl
theorem foldl_rep (its : List Value) : ∀ (k : Nat) (acc : List Value),
    List.foldl (fun x1 x2 => x1 ++ x2) acc.toArray (List.replicate k its.toArray) = (acc ++ (List.replicate k its).flatten).toArray
  | 0, acc => by simp
  | k + 1, acc => by
    have e : acc.toArray ++ its.toArray = (acc ++ its).toArray := by simp
    have e2 : (acc ++ its) ++ (List.replicate k its).flatten = acc ++ (List.replicate (k + 1) its).flatten := by
      rw [List.replicate_succ, List.flatten_cons, List.append_assoc]
    rw [← e2, ← foldl_rep its k (acc ++ its), ← e, List.replicate_succ, List.foldl_cons]

section
variable {X : Cx} {pins : List (Addr × Obj)} {σ : St} {H : Hp} {s : Shared} {l b : Addr} {xs ys zs : List V}

/-! ### the two steps: a tracked list is rewritten, a new list is laid -/
theorem Inv.lset {its its' : List Value} {n : Nat} {f : Array Value → Array Value} {t' : Nat} (I : Inv X pins σ H s) (hH : H l = some (.lst xs))
    (e : s.heap.get? l = some { cls := .type "list", data := .seq its.toArray n }) (hf : f its.toArray = its'.toArray) (hv : Vals ys its') (hz : ys.length ≤ sizeLine) :
    Inv X pins σ (upd H l (.lst ys)) { s with heap := s.heap.update l (Obj.mapSeq f), toks := t' } := by
  have q := PySem.IsL.update e f
  rw [hf] at q
  refine I.write (x := l) (e := l) (by rw [hH]; exact trivial) (.inl rfl) (fun b' u hb hu => (Heap.get?_update_other s.heap (Obj.mapSeq f) (Ne.symm hb)).trans hu) ⟨_, q⟩ ?_
  exact ⟨hz, its', _, hv, q⟩
theorem Inv.lnew {its : List Value} {t' : Nat} (I : Inv X pins σ H s) (hv : Vals ys its) (hz : ys.length ≤ sizeLine) :
    Inv X pins σ (upd H s.heap.objs.size (.lst ys)) { s with heap := s.heap.push { cls := .type "list", data := .seq its.toArray }, toks := t' } :=
  I.laid (fun _ _ q => Heap.get?_push_of_some _ q) (Nat.le_refl _) ⟨hz, its, 0, hv, Heap.get?_push_size _ rfl⟩
theorem Inv.fresh (I : Inv X pins σ H s) : H s.heap.objs.size = none := I.hok.fresh (Nat.le_refl _)
theorem Inv.lstM (I : Inv X pins σ H s) (hH : H l = some (.lst xs)) : xs.length ≤ sizeLine ∧ ∃ (its : List Value) (n : Nat), Vals xs its ∧ xs.length = its.length ∧ s.heap.get? l = some { cls := .type "list", data := .seq its.toArray n } := by
  obtain ⟨z, its, n, r, e⟩ := I.hok l _ hH
  exact ⟨z, its, n, r, r.length, e⟩

theorem notLongL {n : Nat} (h : n ≤ sizeLine) : Builtin.List.listTooLong n = false := by
  unfold Builtin.List.listTooLong
  exact decide_eq_false (by omega)
end

section
variable {X : Cx}

/-! ### methods -/
def rAppend : V → List V → Hp → VK → Prop := fun x vs H Q => ∃ l xs y, x = .ref l ∧ vs = [y] ∧ H l = some (.lst xs) ∧ xs.length < sizeLine ∧ Q .non (upd H l (.lst (xs ++ [y])))
theorem mt_append : MtM X "list.append" rAppend := by
  intro pins s σ H x vs v us Q I rx rv h
  obtain ⟨l, xs, y, rfl, rfl, hH, hz, q⟩ := h
  cases rx
  obtain ⟨u, rfl, ru⟩ := rv.one
  obtain ⟨z, its, n, r, hl, e⟩ := I.lstM hH
  refine call_meets F.slot_list_append ⟨_, e, rfl⟩ F.entry_list_append (F.args_list_append_2 _ _) (PySem.list_append l its.toArray n u (by rw [List.size_toArray]; omega)) ⟨e, ?_⟩
  refine ⟨.non, _, I.lset (its' := its ++ [u]) hH e (by simp) (r.append (.cons ru .nil)) ?_, rfl, q⟩
  rw [List.length_append, List.length_singleton]
  omega

def rExtend : V → List V → Hp → VK → Prop := fun x vs H Q => ∃ l b xs zs, x = .ref l ∧ vs = [.ref b] ∧ H l = some (.lst xs) ∧ H b = some (.lst zs) ∧ xs.length + zs.length ≤ sizeLine ∧ Q .non (upd H l (.lst (xs ++ zs)))
theorem mt_extend : MtM X "list.extend" rExtend := by
  intro pins s σ H x vs v us Q I rx rv h
  obtain ⟨l, b, xs, zs, rfl, rfl, hH, hB, hz, q⟩ := h
  cases rx
  obtain ⟨u, rfl, ru⟩ := rv.one
  cases ru
  obtain ⟨z, its, n, r, hl, e⟩ := I.lstM hH
  obtain ⟨z2, its2, n2, r2, hl2, e2⟩ := I.lstM hB
  have hsz : its.toArray.size + its2.toArray.size ≤ sizeLine := by rw [List.size_toArray, List.size_toArray]; omega
  have hlong : ¬ (!its.toArray.isEmpty && Builtin.List.listTooLong (its.toArray.size + its2.toArray.size)) = true := by
    rw [notLongL hsz, Bool.and_false]
    exact Bool.false_ne_true
  refine call_meets F.slot_list_extend ⟨_, e, rfl⟩ F.entry_list_extend (F.args_list_extend_2 _ _)
    (AutoSeq1.list_extend_list_list_0 l its.toArray n b its2.toArray n2 hlong (by rw [List.size_toArray]; omega) (by omega)) ⟨e, e2, ?_⟩
  refine ⟨.non, _, I.lset (its' := its ++ its2) hH e (by simp) (r.append r2) ?_, rfl, q⟩
  rw [List.length_append]
  omega

def rPop : V → List V → Hp → VK → Prop := fun x vs H Q => ∃ l xs y, x = .ref l ∧ vs = [] ∧ H l = some (.lst xs) ∧ xs[xs.length - 1]? = some y ∧ Q y (upd H l (.lst xs.dropLast))
theorem mt_pop : MtM X "list.pop" rPop := by
  intro pins s σ H x vs v us Q I rx rv h
  obtain ⟨l, xs, y, rfl, rfl, hH, hy, q⟩ := h
  cases rx
  have hus := rv.zero
  subst hus
  obtain ⟨z, its, n, r, hl, e⟩ := I.lstM hH
  obtain ⟨u, hu, ru⟩ := r.get hy
  have hy' : its.toArray[its.toArray.size - 1]? = some u := by
    show its.toArray[its.length - 1]? = some u
    rw [← Array.getElem?_toList, ← hl]
    exact hu
  refine call_meets F.slot_list_pop ⟨_, e, rfl⟩ F.entry_list_pop (F.args_list_pop_1 _) (MeetsSeq.list_pop_last l its.toArray n u hy' (by rw [List.size_toArray]; omega)) ⟨e, ?_⟩
  refine ⟨y, _, I.lset (its' := its.dropLast) hH e ?_ r.dropLast ?_, ru, q⟩
  · show its.toArray.eraseIdxIfInBounds (its.toArray.size - 1) = its.dropLast.toArray
    rw [List.size_toArray, List.eraseIdxIfInBounds_toArray, erase_last]
  · rw [List.length_dropLast]
    omega

def rPopAt : V → List V → Hp → VK → Prop := fun x vs H Q => ∃ l xs i k y, x = .ref l ∧ vs = [.int i] ∧ H l = some (.lst xs) ∧ -(2 ^ 63) ≤ i ∧ i < 2 ^ 63 ∧ seqIndex? i xs.length = some k ∧ xs[k]? = some y ∧ Q y (upd H l (.lst (xs.eraseIdx k)))
def rReverse : V → List V → Hp → VK → Prop := fun x vs H Q => ∃ l xs, x = .ref l ∧ vs = [] ∧ H l = some (.lst xs) ∧ Q .non (upd H l (.lst xs.reverse))
def rClear : V → List V → Hp → VK → Prop := fun x vs H Q => ∃ l xs, x = .ref l ∧ vs = [] ∧ H l = some (.lst xs) ∧ Q .non (upd H l (.lst []))
/-! ### list + list, list += list, list * int -/
def rCat : R2 := fun x y H Q => ∃ l b xs zs, x = .ref l ∧ y = .ref b ∧ H l = some (.lst xs) ∧ H b = some (.lst zs) ∧ xs.length + zs.length ≤ sizeLine ∧ ∀ p, H p = none → Q (.ref p) (upd H p (.lst (xs ++ zs)))
theorem op_cat : OpR X (binaryOp .Add) rCat := by
  intro pins s σ H x y v u Q I rx ry h
  obtain ⟨l, b, xs, zs, rfl, rfl, hH, hB, hz, q⟩ := h
  cases rx
  cases ry
  obtain ⟨z, its, n, r, hl, e⟩ := I.lstM hH
  obtain ⟨z2, its2, n2, r2, hl2, e2⟩ := I.lstM hB
  refine PySem.P.add_list e e2 ?_ (by rw [List.size_toArray, List.size_toArray]; omega)
  have ea : its.toArray ++ its2.toArray = (its ++ its2).toArray := by simp
  rw [ea]
  exact ⟨.ref _, _, I.lnew (t' := s.toks) (r.append r2) (by rw [List.length_append]; omega), rfl, q _ I.fresh⟩
/-- a list times an int (a negative one is nothing) -/
def rRep : R2 := fun x y H Q => ∃ l k xs, x = .ref l ∧ y = .int k ∧ H l = some (.lst xs) ∧ -(2 ^ 63) ≤ k ∧ k < 2 ^ 63 ∧ xs.length * k.toNat ≤ sizeLine ∧
  ∀ p, H p = none → Q (.ref p) (upd H p (.lst (List.replicate k.toNat xs).flatten))
theorem len_rep {α : Type} (xs : List α) (k : Nat) : (List.replicate k xs).flatten.length = k * xs.length := by
  induction k with
  | zero => simp
  | succ k ih => rw [List.replicate_succ, List.flatten_cons, List.length_append, ih, Nat.succ_mul, Nat.add_comm]
theorem op_rep : OpR X (binaryOp .Mult) rRep := by
  intro pins s σ H x y v u Q I rx ry h
  obtain ⟨l, k, xs, rfl, rfl, hH, h1, h2, hz, q⟩ := h
  cases rx
  obtain ⟨t, rfl⟩ := ry
  obtain ⟨z, its, n, r, hl, e⟩ := I.lstM hH
  have hlen : its.toArray.size * k.toNat ≤ sizeLine := by rw [List.size_toArray, ← hl]; exact hz
  have hcap : ¬ its.toArray.size * k.toNat > (2 ^ 63 - 1) / 8 := by
    have : (sizeLine : Nat) ≤ (2 ^ 63 - 1) / 8 := by decide
    omega
  have hfit : ¬ (!Builtin.List.listFitsIndex k) = true := by
    rw [fitsIndex_both h1 h2]
    exact Bool.false_ne_true
  have hlong : ¬ Builtin.List.listTooLong (its.toArray.size * k.toNat) = true := by
    rw [notLongL hlen]
    exact Bool.false_ne_true
  have hnew : List.foldl (fun x1 x2 => x1 ++ x2) #[] (List.replicate (if its.toArray.isEmpty = true then 0 else k.toNat) its.toArray) = (List.replicate k.toNat its).flatten.toArray := by
    have f0 : ∀ m : Nat, List.foldl (fun x1 x2 => x1 ++ x2) #[] (List.replicate m its.toArray) = (List.replicate m its).flatten.toArray := fun m => by
      have := foldl_rep its m []
      rw [List.nil_append] at this
      exact this
    rw [f0]
    cases its with
    | nil => simp
    | cons a r' => rw [if_neg (by simp)]
  refine wpAny_binaryOp_repeat_ref (T := "list") (U := "int") (by decide) ⟨_, e, rfl⟩ (fun s' => typeIs_int s' k t) noFill_list_mul F.fills_int_mul F.slot_int_rmul repeat_list F.slot_int_index.lookup
    (call_meets F.slot_int_rmul (typeIs_int s k t) F.entry_int_rmul (F.args_int_rmul_2 _ _) (int___rmul___int_list k t l its.toArray n)
      ⟨e, rfl, ⟨_, e, rfl⟩, call_meets F.slot_list_mul ⟨_, e, rfl⟩ F.entry_list_mul (F.args_list_mul_2 _ _) (AutoListH.list___mul___list_int_3 l its.toArray n k t hfit hcap hlong) ⟨e, ?_⟩⟩)
  rw [hnew]
  exact ⟨.ref _, _, I.lnew (t' := s.toks) (r.rep k.toNat) (by rw [len_rep, Nat.mul_comm]; exact hz), rfl, q _ I.fresh⟩

/-! ### del xs[i] -/
end

/-! ### xs[a:b] = ys -/
section
variable {prog : Program} {w : World} {A : Around} {E : Value → Shared → Prop} {s : Shared}
end

section
variable {X : Cx}
end
end L2

namespace Att
open PySem PySem.W PySem.Calls PyProof.Rows

/-! ### the script -/
theorem ints_of_wellAll {P : Params} {h : Heap} : ∀ (ns : List Int) (vs : List Value), WellAll P h vs (ns.map WData.int) → IntsAre vs ns := by
  intro ns
  induction ns with
  | nil =>
    intro vs w
    rw [List.map_nil] at w
    cases w
    exact .nil
  | cons n ns ih =>
    intro vs w
    rw [List.map_cons] at w
    cases w with
    | cons a b =>
      cases a
      exact .cons _ _ (ih _ b)

theorem script_of {l : OpenLaw} {n : Nat} (hn : l.most = some n) {P : Params} {h : Heap} {args : List WData} {vals : List Value}
    (hpre : l.row.toRowW.claim.pre args = true) (hwl : WellAll P h vals args) :
    ∃ a vs ns, vals = [Value.ref a] ∧ args = [WData.list (ns.map WData.int)] ∧ h.get? a = some { cls := .type "list", data := .seq vs.toArray } ∧ IntsAre vs ns ∧ ns.length ≤ n := by
  have hsh : WShape.hasAll [] args [.list .int] = true := (pre_splitW hpre).1
  have hc : l.pre.holds [] { args := args } = true := (pre_splitW hpre).2
  obtain ⟨d, r, rfl, h1, h2⟩ := hasAllW_cons hsh
  obtain rfl := hasAllW_nil h2
  obtain ⟨xs, rfl, h3⟩ := hasW_list h1
  obtain ⟨ns, rfl⟩ := items_int h3
  have hlen : ns.length ≤ n := by
    unfold OpenLaw.pre at hc
    have h4 : (WTm.not (.lt (.lit (.int (n : Int))) (.len (.arg 0)))).holds [] { args := [.list (ns.map .int)] } = true := by
      have h4 := (holds_andW hc).1
      rw [hn] at h4
      exact h4
    have h5 := condW_of h4 (w_not (w_lt w_lit (w_len_list (w_arg rfl))))
    rw [List.length_map] at h5
    refine Nat.le_of_not_lt fun q => ?_
    have q' : (n : Int) < ((ns.length : Nat) : Int) := by omega
    first
      | (rw [decide_eq_true q'] at h5; exact absurd h5 (by decide))
      | (simp at h5; omega)
  cases hwl with
  | cons w1 w2 =>
    cases w2
    cases w1 with
    | list ho hall => exact ⟨_, _, ns, rfl, rfl, ho, ints_of_wellAll ns _ hall, hlen⟩

theorem post_true (l : OpenLaw) (args : List WData) : l.row.toRowW.claim.post args (.bool true) args = true :=
  postW_of (r := l.row.toRowW) (X := (true == true))
    (show WShape.has [] (.bool true) .bool = true by first | rfl | decide | simp [WShape.has, WShape.arms, WShape.armsAll])
    (show (WTm.eq .res (.lit (.bool true))).value [] { args := args, res := some (.bool true), after := args } = some (.bool (true == true)) from w_eq_bool (w_res rfl) w_lit) rfl

/-! ### the attachment: holds_open's last premise (the goal 'hc' behind k_head) from a wpAny of the law's body -/
/-- the same from a codeAny of the CALL (for a layer whose function contracts speak of calls) -/
theorem attach_call {l : OpenLaw} {n : Nat} {q : Program} {loose : List Str} {XP : (Str → Option Value) → Heap → Prop} {YP : World → Heap → Prop} {d : DefRec}
    (hn : l.most = some n) (hdf : d.params.defaults = [])
    (call : ∀ (w : World) (s₀ s₁ : Shared) (mg mb : Str → Option Value) (fa : Addr) (o : Obj) (pm cd doc : Value) (a : Addr) (vs : List Value) (ns : List Int),
      Ground q loose [] XP w s₀ mg mb s₁.heap → YP w s₁.heap →
      s₁.heap.get? fa = some o → o.data = .func (docDef d.name d.params d.body d.scope pm cd doc) → s₁.heap.CodeRec cd d.name → mg d.name = some (.ref fa) →
      s₁.heap.get? a = some { cls := .type "list", data := .seq vs.toArray } → IntsAre vs ns → ns.length ≤ n → s₁.gens = #[] →
      codeAny (model l.prog w) callerA (.call (.ref fa) ⟨[.ref a], []⟩) (fun r s' => r = .ok (.ret (.bool true)) ∧ OldK s₁.heap s'.heap ∧ s'.os = s₁.os ∧ AllBare s'.gens) s₁) :
    WalkO q loose XP YP l.row.toRowW d [] (fun f vs => PySem.call f vs) := by
  intro w s₀ s₁ mg mb G Y fa o pm cd doc dV kV ho hd hcd hD hmg hg args vals as hpre hlay hrd hwl hlo
  obtain rfl : dV = .none := Dflts.none hD hdf
  obtain rfl : kV = .none := Dflts.noKw hD
  obtain ⟨a, vs, ns, rfl, rfl, hobj, hints, hlen⟩ := script_of hn hpre hwl
  refine enter_call (codeAny_mono (call w s₀ s₁ mg mb fa o pm cd doc a vs ns G Y ho (fd_plain hd) hcd hmg hobj hints hlen hg) fun r s' hq => ?_)
  obtain ⟨rfl, h2, h3, h4⟩ := hq
  exact ⟨.inl ⟨.bool true, .bool true, [], rfl, fun _ => rfl, .bool true, post_true l _, fun _ => ⟨List.Pairwise.nil, fun _ hm => (nomatch hm)⟩⟩, h2, h3, h4⟩

/-! ### rules over ANY heap (no ledger) from facts about the written part K: the library's own take a ledger (News) for what they write -/
section
variable {prog : Program} {w : World} {A : Around} {E : Value → Shared → Prop} {s : Shared} {K : Frag}

/-! the whole heap as the ledger: makes every rule that writes through a ledger a rule over any heap -/
def noObjs (h : Heap) : Heap := { h with objs := #[] }
def ledger (h : Heap) (L d : Addr) : List (Addr × Obj) := (List.range h.objs.size).filterMap fun a => if a = L ∨ a = d then none else (h.get? a).map fun o => (a, o)
end
end Att

namespace L2
open PySem PySem.Spec PyProof.Rows

theorem vals_ints : ∀ {vs : List Value} {ns : List Int}, IntsAre vs ns → Vals (ns.map V.int) vs
  | _, _, .nil => .nil
  | _, _, .cons n t h => .cons ⟨t, rfl⟩ (vals_ints h)

/-- nothing is tracked but the script, known to the object (or it is an object of the module) -/
def Only (H : Hp) : Prop := ∀ b, H b = none ∨ ∃ o xs, H b = some (.frz o (.lst xs))

/-- THE HEAD: the law's promise, at the heap behind the top. F, the promise of the law's def, may use that base is part of the heap (so K.In base, base.Ns mainGlobals mg stand in Mod) -/
theorem law_call {P : Program} {w : World} {K : PySem.W.Frag} {mg mb : Str → Option Value} {CX : CXT} {k : Nat} {fa a : Addr} {fd : FuncData} {x : Str} {sp : Sp} {s₁ : Shared} {vs : List Value} {ns : List Int}
    (KX : K.In s₁.heap) (hns : s₁.heap.Ns mainGlobals mg) (hb : s₁.heap.Ns builtinsNs mb) (hbb : ∀ x : Str, x ≠ "__name__" → mb x = bootBuiltins x) (hlim : s₁.heap.NoLimit) (hsm : ∃ mm, s₁.heap.Ns sysModules mm) (hg : s₁.gens = #[])
    (ha : s₁.heap.get? a = some { cls := .type "list", data := .seq vs.toArray }) (hi : IntsAre vs ns) (hl : ns.length ≤ sizeLine) (hr : Room k callerA)
    (F : ∀ base : Heap, K.In base → base.Ns mainGlobals mg → FnOk P w K mg base CX k fa fd [x] sp) (hbind : ∀ (s : Shared) (u : Value), BindsTo s fd ⟨[u], []⟩ [(x, u)])
    (hsp : ∀ H : Hp, Only H → SqL K H a (ns.map V.int) → sp [.ref a] H (fun v _ => v = .bl true) fun _ _ _ => False)
    (hCX : ∀ H e s', CX [] H s₁ (fun _ _ _ => False) e s' → False) :
    codeAny (model P w) callerA (.call (.ref fa) ⟨[.ref a], []⟩) (fun r s' => r = .ok (.ret (.bool true)) ∧ OldK s₁.heap s'.heap ∧ s'.os = s₁.os ∧ AllBare s'.gens) s₁ := by
  have rv := vals_ints hi
  have lenV := hi.length
  -- from an abstract heap in which nothing but the script may be tracked
  have core : ∀ H : Hp, Only H → SqL K H a (ns.map V.int) → HOk P w H s₁.heap → (∀ b, H b ≠ none → b = a) → (H a ≠ none → K.lookup a = none) →
      codeAny (model P w) callerA (.call (.ref fa) ⟨[.ref a], []⟩) (fun r s' => r = .ok (.ret (.bool true)) ∧ OldK s₁.heap s'.heap ∧ s'.os = s₁.os ∧ AllBare s'.gens) s₁ := by
    intro H hO hS hok hA hK
    have base_of : ∀ {b : Addr} {o : Obj}, s₁.heap.get? b = some o → H b = none → (hidT s₁.heap H).get? b = some o := fun e n => hidT_get e n
    have noA : ∀ {b : Addr} {o : Obj} {es : Array DictEntry} {ep : Nat}, s₁.heap.get? b = some o → o.data = .dict es ep → H b = none := fun {b o es ep} e d => by
      cases q : H b with
      | none => rfl
      | some u =>
        have e' : b = a := hA b (by rw [q]; simp)
        subst e'
        rw [ha] at e; cases e
        have d' : Data.seq vs.toArray _ = Data.dict es ep := d
        cases d'
    have nsK : ∀ {b : Addr} {m : Str → Option Value}, s₁.heap.Ns b m → (hidT s₁.heap H).Ns b m := fun {b m} ⟨o, es, ep, e, d, r⟩ => ⟨o, es, ep, base_of e (noA e d), d, r⟩
    have hKb : K.In (hidT s₁.heap H) := fun b o e => base_of (KX b o e) (by
      cases q : H b with
      | none => rfl
      | some u =>
        have e' : b = a := hA b (by rw [q]; simp)
        subst e'
        rw [hK (by rw [q]; simp)] at e; cases e)
    have hM : Mod K mg (hidT s₁.heap H) := ⟨hKb, nsK hns, ⟨mb, nsK hb, hbb⟩, let ⟨mc, h1, h2⟩ := hlim; ⟨mc, nsK h1, h2⟩, let ⟨mm, h1⟩ := hsm; ⟨mm, nsK h1⟩⟩
    have e0 : Env0 P w K mg (hidT s₁.heap H) callerA [] s₁ H := ⟨rfl, hM, fun b o e => of_hidT e, Nat.le_of_eq (hidT_size _ _), trivial, fun b hb => absurd (show b ∈ ([] : List Addr) from hb) (by simp), hok, .of_eq hg⟩
    refine codeAny_mono ((F _ hKb (nsK hns)).run callerA [] s₁ H ⟨[.ref a], []⟩ [.ref a] [.ref a] _ _ hr e0 (hbind s₁ (.ref a)) (.cons rfl .nil) (hsp H hO hS)) fun r s' h => ?_
    cases r with
    | error e => exact (hCX H e s' h).elim
    | ok fl =>
      cases fl with
      | next => exact False.elim h
      | brk => exact False.elim h
      | cont => exact False.elim h
      | ret u =>
        obtain ⟨v, H', os, bare, un, hok', r', q⟩ := h
        have q' : v = .bl true := q
        subst q'
        obtain rfl : u = Value.bool true := r'
        refine ⟨rfl, OldK.of_keep fun b o e => ?_, os, bare⟩
        cases q : H b with
        | none => exact un.keep b o e q (by intro z; exact absurd (show b ∈ ([] : List Addr) from z) (by simp)) (by simp)
        | some u =>
          rcases hO b with z | ⟨ob, xs, z⟩
          · rw [q] at z; cases z
          · have z2 := un.frzs b ob _ z
            obtain ⟨e1, _⟩ := hok b _ z
            obtain ⟨e2, _⟩ := hok' b _ z2
            rw [e] at e1; cases e1
            exact e2
  cases hk : K.lookup a with
  | some o =>
    -- the script is one of the module's own objects
    have e := KX a o hk
    rw [ha] at e
    cases e
    refine core (fun _ => none) (fun _ => .inl rfl) (.inr ⟨_, vs.toArray, _, hk, rfl, rfl, rfl, by rw [List.size_toArray, lenV]; exact hl, by simpa using rv⟩) (fun b u z => by have z' : (none : Option HO) = some u := z; cases z') (fun b z => absurd rfl z) fun z => absurd rfl z
  | none =>
    refine core (fun b => if b = a then some (.frz { cls := .type "list", data := .seq vs.toArray } (.lst (ns.map V.int))) else none) (fun b => ?_) (.inl (.inr ⟨{ cls := .type "list", data := .seq vs.toArray }, if_pos rfl⟩)) (fun b u z => ?_) (fun b z => ?_) fun _ => hk
    · by_cases hb : b = a
      · exact .inr ⟨_, _, if_pos hb⟩
      · exact .inl (if_neg hb)
    · by_cases hb : b = a
      · have z' := (if_pos hb).symm.trans z
        cases z'
        subst hb
        exact ⟨ha, by rw [List.length_map]; exact hl, vs, _, rv, ha⟩
      · have z' := (if_neg hb).symm.trans z
        cases z'
    · by_cases hb : b = a
      · exact hb
      · exact absurd (if_neg hb) z
end L2

namespace L2
open PySem PySem.Spec PyProof.Rows

abbrev KOf {K : PySem.W.Frag} {h : Heap} (_ : K.In h) : PySem.W.Frag := K

/-- the goal that k_head leaves (case hc), from the law's promise. F gives the function object fd (K's own) once, then the promise over every base -/
theorem walk_of {l : PySem.W.OpenLaw} {n k : Nat} {q : Program} {loose : List Str} {XP : (Str → Option Value) → Heap → Prop} {YP : World → Heap → Prop} {d : DefRec} {K : Params → PySem.W.Frag} {CX : World → CXT} {sp : World → Sp} {x : Str}
    (hn : l.most = some n) (hn2 : n ≤ sizeLine) (hdf : d.params.defaults = []) (hr : Room k callerA) (hi : PyProof.Rows.importsNone q = true)
    (hY : ∀ (w : World) (h : Heap), YP w h → (K w.params).In h)
    (F : ∀ (w : World) (mg : Str → Option Value) (fa : Addr) (h : Heap), (K w.params).In h → h.Ns mainGlobals mg → mg d.name = some (.ref fa) →
      ∃ fd : FuncData, (∀ (s : Shared) (u : Value), BindsTo s fd ⟨[u], []⟩ [(x, u)]) ∧
        ∀ base : Heap, (K w.params).In base → base.Ns mainGlobals mg → FnOk l.prog w (K w.params) mg base (CX w) k fa fd [x] (sp w))
    (hsp : ∀ (w : World) (H : Hp) (a : Addr) (ns : List Int), ns.length ≤ n → Only H → SqL (K w.params) H a (ns.map V.int) → sp w [.ref a] H (fun v _ => v = .bl true) fun _ _ _ => False)
    (hCX : ∀ (w : World) (H : Hp) (s : Shared) (e : Value) (s' : Shared), CX w [] H s (fun _ _ _ => False) e s' → False) :
    PySem.W.WalkO q loose XP YP l.row.toRowW d [] (fun f vs => PySem.call f vs) := by
  refine Att.attach_call hn hdf fun w s₀ s₁ mg mb fa o pm cd doc a vs ns G Y ho hd hcd hmg hobj hints hlen hg => ?_
  have KX := hY w _ Y
  obtain ⟨fd, hb, hF⟩ := F w mg fa _ KX G.T.g hmg
  exact law_call KX G.T.g G.T.b G.T.builtins G.T.nolimit (let ⟨mm, h1, _⟩ := (G.T.seer hi).mods; ⟨mm, h1⟩) hg hobj hints (Nat.le_trans hlen hn2) hr hF hb (fun H hO hS => hsp w H a ns hlen hO hS) fun H e s' => hCX w H s₁ e s'
end L2

/- THE LAST THEOREM (shape; LID, My.* are yours):
   My.Adr: a structure of the addresses that your layer names (classes, functions); My.Txt K t: a structure (Prop) of the equations over K;
   My.txt_mk : {K} {implicit addresses ..} (e1 : nsIn K mainGlobals "law" = some (some (.ref f))) (e2 : K.lookup f = some ⟨oc, od, .func (fnOf "law" "law" params body scope dV kV doc pm an cdv ct), sl⟩) (e3 : codeIn K cdv "law" = true) .. : ∃ t, My.Txt K t

set_option maxRecDepth 100000 in
set_option maxHeartbeats 0 in
theorem PySem.Challenge.cw_LID_holds : PySem.Challenge.rw_LID.Holds := by
  w_on; o_law; k_head; (case hw => w_witness2)
  k_fill
  refine L2.walk_of (l := PySem.Challenge.rw_LID) (n := 63) (k := 40) (x := "script") (CX := fun w => ..) (sp := fun _ => My.sp_law) rfl (by decide) rfl ⟨rfl, by decide, by decide⟩ (fun w h Y => PySem.W.kIn_of Y) ?F ?S ?C
  case F =>
    intro w mg fa h KX G hmg
    have T : ∃ t, My.Txt (L2.KOf KX) t := by
      dsimp only [L2.KOf]                          -- K must stand as «<heap const> w.params» for k_is
      refine' My.txt_mk ?e1 ?e2 ?e3 ..
      (case e1 => PySem.W.k_is)                    -- in the order: a name -> its address -> its object -> its parts
      (case e2 => PySem.W.k_is)
      ..
    obtain ⟨t, T⟩ := T
    have e0 := hmg.symm.trans (PySem.W.mg_of KX G T.law)
    cases e0                                       -- fa is the law's own address
    exact ⟨_, fun s u => .of_eq rfl, fun base kb nb => My.law_fn T kb nb⟩     -- if «.of_eq rfl» comes too early: refine' ⟨_, ?b, fun base kb nb => My.law_fn T kb nb⟩; exact fun s u => .of_eq rfl
  case S => exact fun w H a ns hl hO hS => ..
  case C => exact ..
(the tactic k_is has no namespace: write k_is) -/

/-! SHORT WORDS over the layer: a def of the text, its body, what a loop and a test want. -/
namespace L2
open PySem PySem.Spec PyProof.Rows

/-! ### the text by places -/
/-- the j-th statement of a class's body -/
def inClass (s : Stmt) (j : Nat) : Stmt := match s with
  | .ClassDef _ _ _ body _ _ _ _ _ _ _ => body.getD j (.Pass ⟨0, 0, 0, 0⟩)
  | _ => .Pass ⟨0, 0, 0, 0⟩
def defArgs (s : Stmt) : Arguments := match s with
  | .FunctionDef _ a _ _ _ _ _ _ _ _ => a
  | _ => { posonlyargs := [], args := [], vararg := none, kwonlyargs := [], kw_defaults := [], kwarg := none, defaults := [] }
def defBody (s : Stmt) : List Stmt := match s with
  | .FunctionDef _ _ b _ _ _ _ _ _ _ => b
  | _ => []
def defScope (s : Stmt) : Scope := match s with
  | .FunctionDef _ _ _ _ _ _ sc _ _ _ => sc
  | _ => { kind := .function, names := [], isGenerator := false, isCoroutine := false }

/-! ### no exception leaves a def -/
abbrev CX0 : CXT := fun _ _ _ _ _ _ => False
abbrev E0 : XK := fun _ _ _ => False
theorem pass0 {X : Cx} : Passes CX0 X E0 := fun _ _ _ _ _ _ _ h => h.elim

/-! ### a def (or method) of the text as it stands behind the top -/
structure Fun (K : PySem.W.Frag) (x qual : Str) (st : Stmt) (f : Addr) (fd : FuncData) : Prop where
  ex : ∃ (oc : Value) (od : Option Addr) (kV doc pm : Value) (an : Option Addr) (cdv ct : Value) (osl : Array (Option Value)),
    fd = PySem.W.fnOf x qual (defArgs st) (defBody st) (defScope st) .none kV doc pm an cdv ct ∧ K.lookup f = some ⟨oc, od, .func fd, osl⟩ ∧ PySem.W.codeIn K cdv qual = true
  kp : PySem.W.keepIn K (.ref f) = true
section
variable {P : Program} {w : World} {K : PySem.W.Frag} {mg : Str → Option Value} {base : Heap}
/-- THE RULE for a def: its body as a term of rules, and the reading of that term -/
theorem Fun.ok {x qual : Str} {st : Stmt} {f : Addr} {fd : FuncData} {N ps : List Str} {k : Nat} {sp : Sp} (F : Fun K x qual st f fd) (S : FnScope N ps (defScope st)) (len : ∀ vs H Q E, sp vs H Q E → vs.length = ps.length)
    (hbody : ∀ (cdv : Value) (A : Around) (outer : List Env) (s : Shared) (H : Hp) (vs : List V) (Q : VK) (E : XK), Room k (A.deeper (envOfC qual (defScope st) s.heap.objs.size f cdv)) → sp vs H Q E →
      ∃ t, PSs (cxOf CX0 P w K mg base N qual (defScope st) f cdv A outer s H E).nox (defBody st) t ∧ t { nx := fun _ H' => Q .non H', rt := Q } (start N vs) H) : FnOk P w K mg base CX0 (k + 1) f fd ps sp := by
  obtain ⟨oc, od, kV, doc, pm, an, cdv, ct, osl, rfl, lk, hcd⟩ := F.ex
  refine fn_of lk hcd S len fun A outer s H vs Q E hr hsp => ?_
  obtain ⟨t, h, q⟩ := hbody cdv A outer s H vs Q E hr hsp
  exact ⟨t, h.nox, q⟩
/-- how its arguments bind (no defaults): h is «fun _ _ _ _ _ _ us hl => match us, hl with | [_, _], _ => rfl», one _ a parameter -/
theorem Fun.binds {x qual : Str} {st : Stmt} {f : Addr} {fd : FuncData} {ps : List Str} (F : Fun K x qual st f fd)
    (h : ∀ (kV doc pm : Value) (an : Option Addr) (cdv ct : Value) (us : List Value), us.length = ps.length → bindArgs (PySem.W.fnOf x qual (defArgs st) (defBody st) (defScope st) .none kV doc pm an cdv ct) ⟨us, []⟩ = pure (ps.zip us)) : Binds K fd ps [] := by
  obtain ⟨oc, od, kV, doc, pm, an, cdv, ct, osl, rfl, lk, hcd⟩ := F.ex
  exact .all (h kV doc pm an cdv ct)
theorem fun_mk {x qual : Str} {st : Stmt} {f : Addr} {oc : Value} {od an : Option Addr} {osl : Array (Option Value)} {kV doc pm cdv ct : Value} (l : K.lookup f = some ⟨oc, od, .func (PySem.W.fnOf x qual (defArgs st) (defBody st) (defScope st) .none kV doc pm an cdv ct), osl⟩)
    (c : PySem.W.codeIn K cdv qual = true) (k : PySem.W.keepIn K (.ref f) = true) : Fun K x qual st f (PySem.W.fnOf x qual (defArgs st) (defBody st) (defScope st) .none kV doc pm an cdv ct) := ⟨⟨oc, od, kV, doc, pm, an, cdv, ct, osl, rfl, l, c⟩, k⟩
end
theorem small1000 {n : Nat} (h : n ≤ 1000) : n < sizeLine := Nat.lt_of_le_of_lt h (by decide)

/-! ### expressions in short: the name that stands in the i-th slot -/
section
variable {X : Cx}
theorem pv (i : Nat) {x : Str} {pos : Pos} (hN : X.N[i]? = some x := by rfl) (hv : Vis X.env.scope x := by first | exact Or.inl rfl | exact Or.inr (Or.inl rfl) | exact Or.inr (Or.inr rfl)) (hd : (x == ("__debug__" : Str)) = false := by decide)
    (hcd : (x == ("__classdict__" : Str)) = false := by decide) : PE X (.Name x pos) (tVar i) := pe_var hN hv hd hcd
end

/-! ### tests -/
theorem iteF {A B : Prop} (h : B) : if false = true then A else B := by
  rw [if_neg Bool.false_ne_true]
  exact h
theorem iteT {A B : Prop} (h : A) : if true = true then A else B := by
  rw [if_pos rfl]
  exact h
theorem ite2 {c A B : Prop} [Decidable c] (h1 : c → A) (h2 : ¬ c → B) : if c then A else B := by
  by_cases h : c
  · rw [if_pos h]
    exact h1 h
  · rw [if_neg h]
    exact h2 h
theorem iteNS {c A B : Prop} [Decidable c] (hc : c) (h : B) : if (!decide c) = true then A else B := by
  rw [decide_eq_true hc]
  exact iteF h

/-! ### heaps -/
/-- all that was tracked is as it was -/
def Same (H H' : Hp) : Prop := ∀ b o, H b = some o → H' b = some o
theorem Same.refl (H : Hp) : Same H H := fun _ _ h => h
theorem Same.trans {H H1 H2 : Hp} (a : Same H H1) (b : Same H1 H2) : Same H H2 := fun c o h => b c o (a c o h)
theorem Same.free {H H' : Hp} (e : Same H H') {l : Addr} (h : H' l = Option.none) : H l = Option.none := by
  cases q : H l with
  | none => rfl
  | some o =>
    rw [e l o q] at h
    cases h
theorem Same.seq {K : PySem.W.Frag} {H H' : Hp} {a : Addr} {xs : List V} (e : Same H H') (h : SqL K H a xs) : SqL K H' a xs := by
  rcases h with (h | ⟨o, h⟩) | h
  · exact .inl (.inl (e _ _ h))
  · exact .inl (.inr ⟨o, e _ _ h⟩)
  · exact .inr h

end L2

set_option Elab.async false
set_option linter.all false
set_option maxRecDepth 100000
namespace L2
open PySem PySem.Spec PyProof.Rows

/-! ### lists of pairs as tables -/
section
variable {κ : Type} [DecidableEq κ]
def valV (kvs : List (κ × V)) (k : κ) : Option V := (kvs.find? fun kv => decide (kv.1 = k)).map (·.2)
/-- in its place, or at the end -/
def putK (kvs : List (κ × V)) (k : κ) (v : V) : List (κ × V) :=
  if (kvs.any fun kv => decide (kv.1 = k)) = true then kvs.map (fun kv => if kv.1 = k then (kv.1, v) else kv) else kvs ++ [(k, v)]
def dropK (kvs : List (κ × V)) (k : κ) : List (κ × V) := kvs.filter fun kv => decide (kv.1 ≠ k)

theorem valV_pos {p : κ × V} {r : List (κ × V)} {k : κ} (e : p.1 = k) : valV (p :: r) k = some p.2 := by simp [valV, List.find?_cons, e]
theorem valV_neg {p : κ × V} {r : List (κ × V)} {k : κ} (e : ¬ p.1 = k) : valV (p :: r) k = valV r k := by simp [valV, List.find?_cons, e]
theorem valV_any (k : κ) : ∀ kvs : List (κ × V), (kvs.any fun kv => decide (kv.1 = k)) = (valV kvs k).isSome
  | [] => rfl
  | p :: r => by
    rw [List.any_cons]
    by_cases e : p.1 = k
    · simp only [valV_pos e, decide_eq_true e, Bool.true_or, Option.isSome_some]
    · rw [valV_neg e, decide_eq_false e, Bool.false_or]; exact valV_any k r
theorem length_putK (kvs : List (κ × V)) (k : κ) (v : V) : (putK kvs k v).length ≤ kvs.length + 1 := by
  unfold putK
  split
  · rw [List.length_map]; omega
  · rw [List.length_append, List.length_cons, List.length_nil]; omega
theorem RelO.isSome_eq {o : Option V} {u : Option Value} (r : RelO o u) : o.isSome = u.isSome := by
  cases o with
  | none => cases u with
    | none => rfl
    | some _ => exact (show False from r).elim
  | some _ => cases u with
    | none => exact (show False from r).elim
    | some _ => rfl
/-- raw tables of the same keys -/
theorem KV.val {kvs : List (κ × V)} {vs : List (κ × Value)} (r : KV kvs vs) (k : κ) : RelO (valV kvs k) (valueAt vs k) := by
  unfold KV at r
  induction r with
  | nil => exact True.intro
  | @cons p q ps qs h t ih =>
    obtain ⟨h1, h2⟩ := h
    by_cases e : p.1 = k
    · have e' : q.1 = k := h1.symm.trans e
      have b : valueAt (q :: qs) k = some q.2 := by simp [valueAt, List.find?_cons, e']
      rw [valV_pos e, b]; exact h2
    · have e' : ¬ q.1 = k := fun z => e (h1.trans z)
      have b : valueAt (q :: qs) k = valueAt qs k := by simp [valueAt, List.find?_cons, e']
      rw [valV_neg e, b]; exact ih
theorem KV.any {kvs : List (κ × V)} {vs : List (κ × Value)} (r : KV kvs vs) (k : κ) : (kvs.any fun kv => decide (kv.1 = k)) = vs.any fun kv => decide (kv.1 = k) := by
  unfold KV at r
  induction r with
  | nil => rfl
  | cons h t ih => rw [List.any_cons, List.any_cons, ih, h.1]
theorem KV.repl {kvs : List (κ × V)} {vs : List (κ × Value)} (r : KV kvs vs) (k : κ) {y : V} {u : Value} (ry : RelV y u) :
    KV (kvs.map fun kv => if kv.1 = k then (kv.1, y) else kv) (vs.map fun kv => if kv.1 = k then (kv.1, u) else kv) := by
  unfold KV at r ⊢
  induction r with
  | nil => exact .nil
  | @cons p q ps qs h t ih =>
    rw [List.map_cons, List.map_cons]
    refine .cons ?_ ih
    obtain ⟨h1, h2⟩ := h
    by_cases e : p.1 = k
    · rw [if_pos e, if_pos (h1.symm.trans e)]; exact ⟨h1, ry⟩
    · rw [if_neg e, if_neg (fun z => e (h1.trans z))]; exact ⟨h1, h2⟩
theorem KV.put {kvs : List (κ × V)} {vs : List (κ × Value)} (r : KV kvs vs) (k : κ) {y : V} {u : Value} (ry : RelV y u) : KV (putK kvs k y) (stored vs k u) := by
  unfold putK stored
  rw [r.any k]
  by_cases e : (vs.any fun kv => decide (kv.1 = k)) = true
  · rw [if_pos e, if_pos e]; exact r.repl k ry
  · rw [if_neg e, if_neg e]; exact Paired.snoc r ⟨rfl, ry⟩
theorem KV.length {kvs : List (κ × V)} {vs : List (κ × Value)} (r : KV kvs vs) : kvs.length = vs.length := Paired.length r
end


/-! ### a tracked dict, its keys ints and texts or tuples of these -/
theorem kV_is {P : Program} {w : World} {k : Key} {u : Value} (r : RelV (kV k) u) : (mixKind P w).is k u = true := by
  cases k with
  | inl i => obtain ⟨t, e⟩ := (show ∃ t, u = Value.int i t from r); subst e; exact mixKind_int P w i t
  | inr x => obtain ⟨t, e⟩ := (show ∃ t, u = Value.str x t from r); subst e; exact mixKind_str P w x t
theorem items_are {P : Program} {w : World} : ∀ {ks : List Key} {us : List Value}, Vals (ks.map kV) us → ItemsAre (mixKind P w) ks us
  | [], _, r => by rw [List.map_nil] at r; cases r; exact .nil
  | k :: ks, _, r => by
    rw [List.map_cons] at r
    cases r with
    | cons h t => exact .cons (kV_is h) (items_are t)

/-- raw entries of a dict with tuple keys -/
abbrev KT (H : Hp) : List (List Key × V) → List (List Key × Addr × Value) → Prop := Paired fun p q => p.1 = q.1 ∧ H q.2.1 = some (.tup (p.1.map kV)) ∧ RelV p.2 q.2.2
theorem KT.val {H : Hp} {kvs : List (List Key × V)} {xs : List (List Key × Addr × Value)} (r : KT H kvs xs) (k : List Key) : RelO (valV kvs k) ((atKey xs k).map (·.2)) := by
  induction r with
  | nil => exact True.intro
  | @cons p q ps qs h t ih =>
    obtain ⟨h1, _, h2⟩ := h
    by_cases e : p.1 = k
    · have e' : q.1 = k := h1.symm.trans e
      have b : atKey (q :: qs) k = some q.2 := by simp [atKey, List.find?_cons, e']
      rw [valV_pos e, b]; exact h2
    · have e' : ¬ q.1 = k := fun z => e (h1.trans z)
      have b : atKey (q :: qs) k = atKey qs k := by simp [atKey, List.find?_cons, e']
      rw [valV_neg e, b]; exact ih
theorem KT.repl {H : Hp} {kvs : List (List Key × V)} {xs : List (List Key × Addr × Value)} (r : KT H kvs xs) (k : List Key) {y : V} {u : Value} (ry : RelV y u) :
    KT H (kvs.map fun kv => if kv.1 = k then (kv.1, y) else kv) (xs.map (putAt k u)) := by
  induction r with
  | nil => exact .nil
  | @cons p q ps qs h t ih =>
    rw [List.map_cons, List.map_cons]
    refine .cons ?_ ih
    obtain ⟨h1, h2, h3⟩ := h
    unfold putAt
    by_cases e : p.1 = k
    · rw [if_pos e, if_pos (h1.symm.trans e)]; exact ⟨h1, h2, ry⟩
    · rw [if_neg e, if_neg (fun z => e (h1.trans z))]; exact ⟨h1, h2, h3⟩
theorem KT.put {H : Hp} {kvs : List (List Key × V)} {xs : List (List Key × Addr × Value)} (r : KT H kvs xs) (k : List Key) {b : Addr} {y : V} {u : Value} (hb : H b = some (.tup (k.map kV))) (ry : RelV y u) :
    KT H (putK kvs k y) (storedH xs k b u) := by
  have e : (kvs.any fun kv => decide (kv.1 = k)) = (atKey xs k).isSome := by
    rw [valV_any, (r.val k).isSome_eq, Option.isSome_map]
  unfold putK storedH
  rw [e]
  by_cases q : (atKey xs k).isSome = true
  · rw [if_pos q, if_pos q]; exact r.repl k ry
  · rw [if_neg q, if_neg q]; exact Paired.snoc r ⟨rfl, hb, ry⟩
theorem KT.keeps {H H' : Hp} {kvs : List (List Key × V)} {xs : List (List Key × Addr × Value)} (r : KT H kvs xs) (ht : ∀ b ys, H b = some (.tup ys) → H' b = some (.tup ys)) : KT H' kvs xs :=
  Paired.mapP r fun _ _ z => ⟨z.1, ht _ _ z.2.1, z.2.2⟩

section
variable {P : Program} {w : World} {H : Hp} {h : Heap} {a : Addr}
theorem rd_of {u : HO} (ok : HOk P w H h) (e : Rd H a u) : ObjOk P w H h a u := e.ok ok
theorem dk_rd {kvs : List (Key × V)} (ok : HOk P w H h) (e : Rd H a (.dK kvs)) : kvs.length ≤ sizeLine ∧ (a == sysModules) = false ∧ ∃ vs, KV kvs vs ∧ h.DictOf (mixKind P w) a vs :=
  show ObjOk P w H h a (.dK kvs) from rd_of ok e
theorem dk_of {kvs : List (Key × V)} (ok : HOk P w H h) (e : H a = some (.dK kvs)) : kvs.length ≤ sizeLine ∧ (a == sysModules) = false ∧ ∃ vs, KV kvs vs ∧ h.DictOf (mixKind P w) a vs := dk_rd ok (.inl e)
/-- a tracked tuple of ints and texts is a key -/
theorem key_of {ks : List Key} (ok : HOk P w H h) (e : H a = some (.tup (ks.map kV))) : (tupleKind (mixKind P w)).is h ks a := by
  obtain ⟨_, its, r, o, h1, h2, n, h3⟩ := (show ObjOk P w H h a (.tup (ks.map kV)) from ok a _ e)
  exact ⟨o, its.toArray, n, h1, h2, h3, by simpa using items_are r⟩
theorem dt_rd {kvs : List (List Key × V)} (ok : HOk P w H h) (e : Rd H a (.dT kvs)) : kvs.length ≤ sizeLine ∧ (a == sysModules) = false ∧
    ∃ xs, KT H kvs xs ∧ h.DictOfH (tupleKind (mixKind P w)) a xs := by
  obtain ⟨z, y, xs, r, o, es, ep, h1, h2, h3, h4, h5⟩ := (show ObjOk P w H h a (.dT kvs) from rd_of ok e)
  refine ⟨z, y, xs, r, o, es, ep, h1, h2, h3, h4, fun x hx => ?_, h5⟩
  have all : ∀ {l : List (List Key × V)} {m : List (List Key × Addr × Value)}, KT H l m → ∀ x ∈ m, (tupleKind (mixKind P w)).is h x.1 x.2.1 := by
    intro l m q
    induction q with
    | nil => intro x hx; exact nomatch hx
    | @cons p q ps qs hq t ih =>
      intro x hx
      rcases List.mem_cons.mp hx with e | hx
      · subst e
        exact key_of ok (by rw [← hq.1]; exact hq.2.1)
      · exact ih x hx
  exact all r x hx
theorem dt_of {kvs : List (List Key × V)} (ok : HOk P w H h) (e : H a = some (.dT kvs)) : kvs.length ≤ sizeLine ∧ (a == sysModules) = false ∧
    ∃ xs, KT H kvs xs ∧ h.DictOfH (tupleKind (mixKind P w)) a xs := dt_rd ok (.inl e)
end

/-- what the dict at a holds at the key y -/
def DGet (H : Hp) (a : Addr) (y : V) (r : Option V) : Prop :=
  (∃ kvs k, Rd H a (.dK kvs) ∧ y = kV k ∧ r = valV kvs k) ∨ ∃ kvs k b, Rd H a (.dT kvs) ∧ y = .ref b ∧ H b = some (.tup (k.map kV)) ∧ r = valV kvs k
/-- the heap behind a[y] = v -/
def DPut (H : Hp) (a : Addr) (y v : V) (H' : Hp) : Prop :=
  (∃ kvs k, H a = some (.dK kvs) ∧ y = kV k ∧ kvs.length < sizeLine ∧ H' = upd H a (.dK (putK kvs k v))) ∨
  ∃ kvs k b, H a = some (.dT kvs) ∧ y = .ref b ∧ H b = some (.tup (k.map kV)) ∧ kvs.length < sizeLine ∧ H' = upd H a (.dT (putK kvs k v))
theorem DGet.t {H : Hp} {a b : Addr} {kvs : List (List Key × V)} {k : List Key} (e : H a = some (.dT kvs)) (eb : H b = some (.tup (k.map kV))) : DGet H a (.ref b) (valV kvs k) := .inr ⟨kvs, k, b, .inl e, rfl, eb, rfl⟩
theorem DPut.t {H : Hp} {a b : Addr} {kvs : List (List Key × V)} {k : List Key} {v : V} (e : H a = some (.dT kvs)) (eb : H b = some (.tup (k.map kV))) (hl : kvs.length < sizeLine) :
    DPut H a (.ref b) v (upd H a (.dT (putK kvs k v))) := .inr ⟨kvs, k, b, e, rfl, eb, hl, rfl⟩


section
variable {X : Cx} {pins : List (Addr × Obj)} {σ : St} {H : Hp} {s : Shared} {a : Addr} {y v : V} {u r : Value} {o : Option V} {A : Around} {E : Value → Shared → Prop}

theorem Inv.big (I : Inv X pins σ H s) : sysModules < s.heap.objs.size := by
  have h : mainGlobals < s.heap.objs.size := (I.mod.glob.keeps I.bk).lt
  exact Nat.lt_trans (by decide) h

/-- d[y], there -/
theorem d_getItem {Q : Value → Shared → Prop} (hu : A.units + 1 < cLine) (I : Inv X pins σ H s) (g : DGet H a y (some v)) (ry : RelV y u) (h : ∀ w' s', Inv X pins σ H s' → RelV v w' → Q w' s') :
    wpAny (model X.prog X.w) A (getItem (.ref a) u) Q E s := by
  rcases g with ⟨kvs, k, e, ey, l⟩ | ⟨kvs, k, b, e, ey, eb, l⟩
  · subst ey
    obtain ⟨z, hd, vs, rel, dd⟩ := dk_rd I.hok e
    obtain ⟨w', hw, rw'⟩ := RelO.some_of (v := v) (o := valueAt vs k) (by rw [l]; exact rel.val k)
    exact wpAny_getItem_of (kV_is ry) dd.mapOf hw (h w' _ (I.tok _) rw')
  · subst ey
    cases (show u = Value.ref b from ry)
    obtain ⟨z, hd, xs, rel, dd⟩ := dt_rd I.hok e
    obtain ⟨w', hw, rw'⟩ := RelO.some_of (v := v) (o := (atKey xs k).map (·.2)) (by rw [l]; exact rel.val k)
    obtain ⟨p, hp, hp2⟩ := Option.map_eq_some_iff.mp hw
    refine wpAny_getItem_heap (tupleKind_room_in1 hu) (key_of I.hok eb) dd hp ?_
    rw [hp2]
    exact h w' _ (I.tok _) rw'
/-- a dict's object is replaced -/
theorem d_write {h' : Heap} {t' : Nat} {ob : HO} (I : Inv X pins σ H s) (mu : Mut (H a)) (hs : Heap.SameBut a s.heap h') (he : ∃ q, h'.get? a = some q) (new : ObjOk X.prog X.w (upd H a ob) h' a ob) :
    Inv X pins σ (upd H a ob) { s with heap := h', toks := t' } :=
  I.write (x := a) (e := a) mu (.inl rfl) (fun b q hb z => (hs.2 b hb).trans z) he new
theorem dk_new {P : Program} {w : World} {H' : Hp} {h' : Heap} {kvs : List (Key × V)} {vs : List (Key × Value)} (z : kvs.length ≤ sizeLine) (hd : (a == sysModules) = false) (rel : KV kvs vs) (dd : h'.DictOf (mixKind P w) a vs) :
    ObjOk P w H' h' a (.dK kvs) := ⟨z, hd, vs, rel, dd⟩
/-- d[y] = v -/
theorem d_setItem {H' : Hp} {Q : Unit → Shared → Prop} (hu : A.units + 1 < cLine) (I : Inv X pins σ H s) (g : DPut H a y v H') (ry : RelV y u) (rv : RelV v r) (h : ∀ s', Inv X pins σ H' s' → Q () s') :
    wpAny (model X.prog X.w) A (setItem (.ref a) u r) Q E s := by
  rcases g with ⟨kvs, k, e, ey, l, eH⟩ | ⟨kvs, k, b, e, ey, eb, l, eH⟩
  · subst ey eH
    obtain ⟨z, hd, vs, rel, dd⟩ := dk_of I.hok e
    have hz : vs.length ≤ sizeLine := by rw [← rel.length]; exact z
    have hl : (putK kvs k v).length ≤ sizeLine := by have := length_putK kvs k v; omega
    refine wpAny_setItem_pairs (hsz := hz) (kV_is ry) dd fun h' dd' hs => h _ ?_
    have he : ∃ q, h'.get? a = some q := let ⟨q, _, _, hq, _⟩ := dd'; ⟨q, hq⟩
    exact d_write I (by rw [e]; exact True.intro) hs he (dk_new hl hd (rel.put k rv) dd')
  · subst ey eH
    cases (show u = Value.ref b from ry)
    obtain ⟨z, hd, xs, rel, dd⟩ := dt_of I.hok e
    have hz : xs.length ≤ sizeLine := by rw [← Paired.length rel]; exact z
    have hl : (putK kvs k v).length ≤ sizeLine := by have := length_putK kvs k v; omega
    refine wpAny_setItem_heap (hsz := hz) (tupleKind_room_in1 hu) (key_of I.hok eb) dd fun h' dd' hs => h _ ?_
    obtain ⟨q, es, ep, hq, h2, h3, h4, _, h5⟩ := dd'
    refine d_write I (by rw [e]; exact True.intro) hs ⟨q, hq⟩ ⟨hl, hd, _, (rel.put k eb rv).keeps fun c ys ec => ?_, q, es, ep, hq, h2, h3, h4, h5⟩
    rw [upd_ne (ne_of ec e (fun z => nomatch z))]
    exact ec
end

section
variable {X : Cx} {pins : List (Addr × Obj)} {σ : St} {H : Hp} {s : Shared} {a : Addr} {kvs : List (Key × V)} {k : Key} {u : Value} {A : Around} {E : Value → Shared → Prop}
end


/-! ### readings and rules -/
/-- the element of a subscription, not a slice -/
def NoSl (i : Expr) : Prop := ∀ ov iv, subscripted i false ov iv = operate [ov, iv] (getItem ov iv)
theorem subD_of {prog : Program} {w : World} {A : Around} {E : Value → Shared → Prop} {s : Shared} {env : Env} {value slice : Expr} {pos : Pos} {T id : String} {Q : Value → Shared → Prop}
    (hl : typeLookup (.type T) "__getitem__" = pure (some (.builtin id))) (hs : NoSl slice)
    (h : wpAny (model prog w) A (eval value env) (fun o s₁ => wpAny (model prog w) A (eval slice env) (fun i s₂ => s₂.TypeIs o T ∧ wpAny (model prog w) A (getItem o i) Q E s₂) E s₁) E s) :
    wpAny (model prog w) A (eval (.Subscript value slice pos) env) Q E s := by
  refine Subscript_ (wpAny_mono h (fun o s₁ h₁ => wpAny_mono h₁ (fun i s₂ h₂ => ?_) fun _ _ x => x) fun _ _ x => x)
  obtain ⟨hT, h₂⟩ := h₂
  unfold subscriptTail
  refine wpAny_bind ?_
  rw [getitemInPython_of_ne hT.not_modules]
  refine wpAny_bind (wpAny_specialOf hT hl ?_)
  have fin : wpAny (model prog w) A (subscripted slice false o i) (fun r s₃ => wpAny (model prog w) A (letTemporaryGo value o r >>= fun _ => pure r) Q E s₃) E s₂ := by
    rw [hs o i]
    exact wpAny_operating (wpAny_mono h₂ (fun r s₃ h₃ => wpAny_bind (wpAny_letTemporaryGo (wpAny_pure h₃))) fun _ _ x => x)
  first
    | exact wpAny_pure (wpAny_bind fin)
    | exact wpAny_bind (wpAny_pure (wpAny_bind fin))
    | exact wpAny_bind fin

theorem dict_typeIs {X : Cx} {pins : List (Addr × Obj)} {σ : St} {H : Hp} {s : Shared} {a : Addr} {y : V} {o : Option V} (I : Inv X pins σ H s) (g : DGet H a y o) : s.TypeIs (.ref a) "dict" := by
  rcases g with ⟨kvs, k, e, _, _⟩ | ⟨kvs, k, b, e, _, _, _⟩
  · obtain ⟨_, _, vs, _, dd⟩ := dk_rd I.hok e
    exact dd.typeIs
  · obtain ⟨_, _, xs, _, dd⟩ := dt_rd I.hok e
    exact dd.typeIs
/-- d[y] -/
def tDGet (td ty : TE) : TE := fun σ H Q => td σ H fun x H1 => ty σ H1 fun y H2 => ∃ a v, x = .ref a ∧ DGet H2 a y (some v) ∧ Q v H2
/-- y in d, y not in d -/
def tDIn (ty td : TE) : TE := fun σ H Q => ty σ H fun y H1 => td σ H1 fun x H2 => ∃ a o, x = .ref a ∧ DGet H2 a y o ∧ Q (.bl o.isSome) H2
def tDNotIn (ty td : TE) : TE := fun σ H Q => ty σ H fun y H1 => td σ H1 fun x H2 => ∃ a o, x = .ref a ∧ DGet H2 a y o ∧ Q (.bl (!o.isSome)) H2
/-- d[y] = v -/
def sDPut (td ty tv : TE) : TS := fun D σ H => tv σ H fun v H1 => td σ H1 fun x H2 => ty σ H2 fun y H3 => ∃ a H4, x = .ref a ∧ DPut H3 a y v H4 ∧ D.nx σ H4
/-- d[y] op= v -/
def sDAug (td ty tv : TE) (rd : V → V → Hp → VK → Prop) : TS := fun D σ H => td σ H fun x H1 => ty σ H1 fun y H2 => ∃ a v, x = .ref a ∧ DGet H2 a y (some v) ∧
  tv σ H2 fun y2 H3 => rd v y2 H3 fun z H4 => ∃ H5, DPut H4 a y z H5 ∧ D.nx σ H5
/-- del d[y] -/
def sDDel (td ty : TE) : TS := fun D σ H => td σ H fun x H1 => ty σ H1 fun y H2 => ∃ a kvs k, x = .ref a ∧ H2 a = some (.dK kvs) ∧ y = kV k ∧ (valV kvs k).isSome = true ∧ D.nx σ (upd H2 a (.dK (dropK kvs k)))

section
variable {X : Cx} {o i e value : Expr} {pos pos' tpos : Pos} {td ty tv : TE}
theorem pe_dget (hu : X.A.units + 1 < cLine) (ho : PE X o td) (hi : PE X i ty) (hs : NoSl i) : PE X (.Subscript o i pos) (tDGet td ty) := by
  intro pins s σ H Q I h
  refine subD_of PySem.F.slot_dict_getitem.lookup hs (thn (ho pins s σ H _ I h) fun u s1 ⟨x, H1, I1, rx, q1⟩ => thn (hi pins s1 σ H1 _ I1 q1) fun iv s2 ⟨y, H2, I2, ry, a, v, ex, g, q2⟩ => ?_)
  subst ex
  obtain rfl : u = Value.ref a := rx
  exact ⟨dict_typeIs I2 g, d_getItem hu I2 g ry fun w' s3 I3 rw' => ⟨v, H2, I3, rw', q2⟩⟩
theorem ps_dput (hu : X.A.units + 1 < cLine) (ho : PE X o td) (hi : PE X i ty) (hv : PE X value tv) (hs : swapsWith value (some (.Subscript o i pos')) pos.line X.env = pure false) :
    PS X (.Assign [.Subscript o i pos'] value pos) (sDPut td ty tv) := by
  intro pins s σ H D I h
  refine wpAny_Assign_Subscript (thn (hv pins s σ H _ I h) fun r s1 ⟨v, H1, I1, rv, q1⟩ => thn (ho pins s1 σ H1 _ I1 q1) fun u s2 ⟨x, H2, I2, rx, q2⟩ => thn (hi pins s2 σ H2 _ I2 q2) fun iv s3 ⟨y, H3, I3, ry, a, H4, ex, g, q3⟩ => ?_) hs
  subst ex
  obtain rfl : u = Value.ref a := rx
  exact d_setItem hu I3 g ry rv fun s4 I4 => ⟨σ, H4, I4, q3⟩
end


/-! ### displays -/
theorem dk_empty {P : Program} {w : World} {H : Hp} (h : Heap) (hb : sysModules < h.objs.size) : ObjOk P w H (h.push { cls := .type "dict", data := .dict #[] }) h.objs.size (.dK []) :=
  ⟨Nat.zero_le _, beq_eq_false_iff_ne.mpr (Ne.symm (Nat.ne_of_lt hb)), [], .nil, Heap.DictOf.new h⟩
theorem dt_empty {P : Program} {w : World} {H : Hp} (h : Heap) (hb : sysModules < h.objs.size) : ObjOk P w H (h.push { cls := .type "dict", data := .dict #[] }) h.objs.size (.dT []) :=
  ⟨Nat.zero_le _, beq_eq_false_iff_ne.mpr (Ne.symm (Nat.ne_of_lt hb)), [], .nil, _, #[], 0, Heap.get?_push_size _ rfl, ⟨rfl, rfl, rfl⟩, rfl, rfl, List.nodup_nil⟩
/-- {}, to be a dict of the kind that is wanted -/
def tDNewK : TE := fun _ H Q => ∀ p, H p = none → Q (.ref p) (upd H p (.dK []))
def tDNewT : TE := fun _ H Q => ∀ p, H p = none → Q (.ref p) (upd H p (.dT []))
section
variable {X : Cx} {pos : Pos}
theorem pe_dnewK : PE X (.Dict [] [] pos) tDNewK := fun pins s σ H Q I h =>
  wpAny_Dict_empty ⟨.ref s.heap.objs.size, _, I.laid (a := s.heap.objs.size) (o := .dK []) (t' := s.toks) (fun _ _ q => Heap.get?_push_of_some _ q) (Nat.le_refl _) (dk_empty s.heap I.big), rfl, h _ (I.hok.fresh (Nat.le_refl _))⟩
end

/-- the pairs of a display, from the left -/
def tPairs : List (TE × TE) → St → Hp → (List (V × V) → Hp → Prop) → Prop
  | [], _, H, Q => Q [] H
  | (tk, tv) :: r, σ, H, Q => tk σ H fun x H1 => tv σ H1 fun y H2 => tPairs r σ H2 fun ps H3 => Q ((x, y) :: ps) H3
abbrev VV : List (V × V) → List (Value × Value) → Prop := Paired fun p q => RelV p.1 q.1 ∧ RelV p.2 q.2
def PPs (X : Cx) (pos : Pos) (keys : List (Option Expr)) (values : List Expr) (trs : List (TE × TE)) : Prop :=
  ∀ (pins : List (Addr × Obj)) (s : Shared) (σ : St) (H : Hp) (Q : List (V × V) → Hp → Prop), Inv X pins σ H s → tPairs trs σ H Q →
    wpAny (model X.prog X.w) X.A (evalPairs (pairTrees keys values X.env pos)) (fun vs s' => ∃ ps H', Inv X pins σ H' s' ∧ VV ps vs ∧ Q ps H') X.xe s
theorem pps_nil {X : Cx} {pos : Pos} : PPs X pos [] [] [] := fun pins s σ H Q I h => pairTrees_nil_walk ⟨[], H, I, .nil, h⟩
theorem pps_cons {X : Cx} {pos : Pos} {k v : Expr} {ks : List (Option Expr)} {vs : List Expr} {tk tv : TE} {trs : List (TE × TE)} (hk : PE X k tk) (hv : PE X v tv) (hr : PPs X pos ks vs trs) :
    PPs X pos (some k :: ks) (v :: vs) ((tk, tv) :: trs) := fun pins s σ H Q I h =>
  pairTrees_cons_walk (thn (hk pins s σ H _ I h) fun u s1 ⟨x, H1, I1, rx, q1⟩ => thn (hv pins s1 σ H1 _ I1 q1) fun w2 s2 ⟨y, H2, I2, ry, q2⟩ =>
    thn (hr pins s2 σ H2 _ I2 q2) fun ws s3 ⟨ps, H3, I3, rel, q3⟩ => ⟨(x, y) :: ps, H3, I3, .cons ⟨rx, ry⟩ rel, q3⟩)

def mergeK (kvs more : List (Key × V)) : List (Key × V) := more.foldl (fun acc kv => putK acc kv.1 kv.2) kvs
/-- {k: v, ..} with keys ints and texts; the new dict stands empty while the pairs are made -/
def tDisp (trs : List (TE × TE)) : TE := fun σ H Q => ∀ p, H p = none → tPairs trs σ (upd H p (.dK [])) fun ps H2 => H2 p = some (.dK []) ∧ ∃ kvs : List (Key × V), ps = kvs.map (fun kv => (kV kv.1, kv.2)) ∧ kvs.length ≤ 15 ∧ Q (.ref p) (upd H2 p (.dK (mergeK [] kvs)))
/-! ### methods -/
/-- a method call o.m(e) of a built-in, with one argument: what must be seen of the text -/
structure M1 (X : Cx) (o : Expr) (m : Str) (apos : Pos) (e : Expr) (cpos : Pos) : Prop where
  base : attributeBase o m X.env (eval o X.env) = eval o X.env
  few : ((backTo cpos (starEach [e] X.env)).all (fun x => !x.1) && (backToKw cpos (keywordEach [] X.env)).all (fun x => x.1.isSome)
    && decide (([e] : List Expr).length + ([] : List Keyword).length + (if ([] : List Keyword).isEmpty then 0 else 1) < 30)) = true
  line : (apos.endLine == cpos.line) = true
  trees : backTo cpos (starEach [e] X.env) = [(false, eval e X.env)]
structure M2 (X : Cx) (o : Expr) (m : Str) (apos : Pos) (e f : Expr) (cpos : Pos) : Prop where
  base : attributeBase o m X.env (eval o X.env) = eval o X.env
  few : ((backTo cpos (starEach [e, f] X.env)).all (fun x => !x.1) && (backToKw cpos (keywordEach [] X.env)).all (fun x => x.1.isSome)
    && decide (([e, f] : List Expr).length + ([] : List Keyword).length + (if ([] : List Keyword).isEmpty then 0 else 1) < 30)) = true
  line : (apos.endLine == cpos.line) = true
  trees : backTo cpos (starEach [e, f] X.env) = [(false, eval e X.env), (false, eval f X.env)]

/-- a is a dict, whatever its keys -/
def IsD (H : Hp) (a : Addr) : Prop := (∃ kvs, Rd H a (.dK kvs)) ∨ ∃ kvs, Rd H a (.dT kvs)
section
variable {X : Cx} {pins : List (Addr × Obj)} {σ : St} {H : Hp} {s : Shared} {a : Addr} {y d : V} {u r : Value} {o : Option V} {A : Around} {E : Value → Shared → Prop}
end

def tDGet1 (td ty : TE) : TE := fun σ H Q => td σ H fun x H1 => ∃ a, x = .ref a ∧ IsD H1 a ∧ ty σ H1 fun y H2 => ∃ o, DGet H2 a y o ∧ Q (o.getD .non) H2
def tDGet2 (td ty tx : TE) : TE := fun σ H Q => td σ H fun x H1 => ∃ a, x = .ref a ∧ IsD H1 a ∧ ty σ H1 fun y H2 => tx σ H2 fun z H3 => ∃ o, DGet H3 a y o ∧ Q (o.getD z) H3
/-- d.pop(k): there; d.pop(k, x): there or not -/
def tDPop1 (td ty : TE) : TE := fun σ H Q => td σ H fun x H1 => ∃ a, x = .ref a ∧ IsD H1 a ∧ ty σ H1 fun y H2 => ∃ kvs k v, H2 a = some (.dK kvs) ∧ y = kV k ∧ valV kvs k = some v ∧ Q v (upd H2 a (.dK (dropK kvs k)))
def tDPop2 (td ty tx : TE) : TE := fun σ H Q => td σ H fun x H1 => ∃ a, x = .ref a ∧ IsD H1 a ∧ ty σ H1 fun y H2 => tx σ H2 fun z H3 => ∃ kvs k, H3 a = some (.dK kvs) ∧ y = kV k ∧
  (∀ v, valV kvs k = some v → Q v (upd H3 a (.dK (dropK kvs k)))) ∧ (valV kvs k = none → Q z H3)
section
variable {X : Cx} {o e f : Expr} {apos cpos : Pos} {td ty tx : TE}
end

/-! ### dict(d): a copy -/
section
variable {X : Cx} {pins : List (Addr × Obj)} {σ : St} {H : Hp} {s : Shared} {a : Addr} {kvs : List (Key × V)} {A : Around} {E : Value → Shared → Prop}
end


section
variable {X : Cx} {pins : List (Addr × Obj)} {σ : St} {H : Hp} {s : Shared} {a : Addr} {y : V} {u : Value} {A : Around} {E : Value → Shared → Prop}
end
end L2
namespace L2
open PySem PySem.Spec PyProof.Rows
section
variable {X : Cx}
end
/-! ### a dict's pairs: keys that differ -/
section
variable {κ : Type} [DecidableEq κ]
end
end L2

set_option Elab.async false
set_option linter.all false
set_option maxRecDepth 100000
set_option maxHeartbeats 4000000
namespace L2
open PySem PySem.Spec PyProof.Rows
/-! ### an untracked list of ours is taken into the heap -/
theorem Inv.adopt {X : Cx} {pins : List (Addr × Obj)} {σ : St} {H : Hp} {s : Shared} {a : Addr} {o : HO} (I : Inv X pins σ H s) (hn : H a = none) (hs : X.s₀.heap.objs.size ≤ a) (hL : a ≠ X.env.locals) (hC : ∀ x c, X.env.cells.lookup x = some c → c ≠ a) (hp : ∀ p ∈ X.pn ++ pins, p.1 ≠ a)
    (new : ObjOk X.prog X.w (upd H a o) s.heap a o) : Inv X pins σ (upd H a o) s := by
  have ne : ∀ b u, X.s₀.heap.get? b = some u → b ≠ a := fun b u e => Nat.ne_of_lt (Nat.lt_of_lt_of_le (Heap.lt_size e) hs)
  refine ⟨I.ok, I.os, I.bare, ⟨I.base.keep, I.base.slot, fun b u e n hx => ?_, I.base.there, fun b xs e => ?_, fun b u xs e => ?_, fun b ps e => ?_⟩, I.loc, I.cell, ?_, fun x c e => ?_, fun p hq => ?_, fun b u e => ?_, I.len⟩
  · rw [upd_ne (ne b u e)]; exact I.base.free b u e n hx
  · have q := I.base.tups b xs e
    rw [upd_ne (ne_of_none q hn)]; exact q
  · have q := I.base.frzs b u xs e
    rw [upd_ne (ne_of_none q hn)]; exact q
  · obtain ⟨m, q⟩ := I.base.tbls b ps e
    exact ⟨m, by rw [upd_ne (ne_of_none q hn)]; exact q⟩
  · rw [upd_ne (Ne.symm hL)]; exact I.free
  · rw [upd_ne (hC x c e)]; exact I.freeC x c e
  · obtain ⟨h1, h2, h3⟩ := I.pin p hq
    exact ⟨h1, by rw [upd_ne (hp p hq)]; exact h2, h3⟩
  · by_cases hb : b = a
    · subst hb; rw [upd_same] at e; cases e; exact new
    · rw [upd_ne hb] at e
      exact (I.hok b u e).stay (fun c v _ q => q) (fun c q => by rw [upd_ne (ne_of_none q hn)]; exact q) fun c xs q => by rw [upd_ne (ne_of_none q hn)]; exact q
/-! ### a comprehension -/
/-- the cells of a closure are the frame's -/
def CellsIn (E : Env) : List (Str × Addr) → Prop
  | [] => True
  | p :: r => E.cells.lookup p.1 = some p.2 ∧ CellsIn E r
theorem CellsIn.get {E : Env} : ∀ {cl : List (Str × Addr)} {x : Str} {c : Addr}, CellsIn E cl → cl.lookup x = some c → E.cells.lookup x = some c := by
  intro cl x c h e
  have hm := PySem.mem_of_lookup e
  clear e
  induction cl with
  | nil => exact nomatch hm
  | cons p r ih =>
    rcases List.mem_cons.mp hm with q | q
    · have := h.1
      rw [← q] at this
      exact this
    · exact ih h.2 q
/-- the names of a comprehension's block: its own (none), the frame's slot i (some i) -/
def CapOk (XE : Env) (sc : Scope) (XN : List Str) : List Str → List (Option Nat) → Prop
  | [], [] => True
  | _ :: n, none :: c => CapOk XE sc XN n c
  | x :: n, some i :: c => (XN[i]? = some x ∧ (XE.kindOf x = some .cell ∨ XE.kindOf x = some .free) ∧ (sc.names.lookup x = some .cell ∨ sc.names.lookup x = some .free)) ∧ CapOk XE sc XN n c
  | _, _ => False
def capV (σ : St) (o : Option Nat) : Option V := match o with
  | none => none
  | some i => (σ[i]?).join
def capSt (cap : List (Option Nat)) (σ : St) : St := cap.map (capV σ)
theorem CapOk.len {XE : Env} {sc : Scope} {XN : List Str} : ∀ {n : List Str} {c : List (Option Nat)}, CapOk XE sc XN n c → c.length = n.length
  | [], [], _ => rfl
  | _ :: _, none :: _, h => congrArg (· + 1) (CapOk.len (n := _) (c := _) h)
  | _ :: _, some _ :: _, h => congrArg (· + 1) (CapOk.len h.2)
  | [], _ :: _, h => (show False from h).elim
  | _ :: _, [], h => (show False from h).elim
theorem CapOk.get {XE : Env} {sc : Scope} {XN : List Str} {σ : St} : ∀ {n : List Str} {c : List (Option Nat)} {j : Nat} {x : Str} {v : V}, CapOk XE sc XN n c → n[j]? = some x → (capSt c σ)[j]? = some (some v) →
    ∃ i : Nat, XN[i]? = some x ∧ σ[i]? = some (some v) ∧ (XE.kindOf x = some .cell ∨ XE.kindOf x = some .free) ∧ (sc.names.lookup x = some .cell ∨ sc.names.lookup x = some .free)
  | [], [], _, _, _, _, h, _ => by simp at h
  | y :: n, none :: c, 0, x, v, _, _, e => by simp [capSt, capV] at e
  | y :: n, none :: c, j + 1, x, v, h, h1, e => CapOk.get (n := n) (c := c) (j := j) h (by simpa using h1) (by simpa [capSt] using e)
  | y :: n, some i :: c, 0, x, v, h, h1, e => by
    simp at h1; subst h1
    refine ⟨i, h.1.1, ?_, h.1.2⟩
    simp only [capSt, capV, List.map_cons, List.getElem?_cons_zero] at e
    cases q : σ[i]? with
    | none => rw [q] at e; simp at e
    | some w => rw [q] at e; simp at e; rw [e]
  | y :: n, some i :: c, j + 1, x, v, h, h1, e => CapOk.get (n := n) (c := c) (j := j) h.2 (by simpa using h1) (by simpa [capSt] using e)
  | [], _ :: _, _, _, _, h, _, _ => (show False from h).elim
  | _ :: _, [], _, _, _, h, _, _ => (show False from h).elim
/-- the context of a comprehension's block -/
def cxComp (X : Cx) (scope : Scope) (cl : List (Str × Addr)) (NY : List Str) (fp : List Addr) (s : Shared) (H : Hp) (C : Addr) : Cx where
  prog := X.prog
  w := X.w
  K := X.K
  mg := X.mg
  base := X.base
  A := X.A
  N := NY
  s₀ := s
  H₀ := H
  env := compEnvC scope cl C X.env
  outer := X.stack
  stack := X.stack
  ex := fp
  fn := fun _ => false
  calm := X.calm
  pn := []
  xe := fun _ _ => False
def PIfs (X : Cx) (ifs : List Expr) (t : TT) : Prop :=
  ∀ (pins : List (Addr × Obj)) (s : Shared) (σ : St) (H : Hp) (Q : Bool → Hp → Prop), Inv X pins σ H s → t σ H Q →
    wpAny (model X.prog X.w) X.A (forIn ifs true fun c r => if r = true then do let ok ← isTrue c X.env (eval c X.env); pure (ForInStep.yield ok) else pure (ForInStep.yield r)) (TP X pins σ Q) X.xe s
theorem pifs_nil {X : Cx} : PIfs X [] (fun _ H Q => Q true H) := fun _ _ _ H _ I h => wpAny_tests_nil ⟨H, I, h⟩
theorem compLoopG {prog : Program} {w : World} {A : Around} {R : Result → Shared → Prop} {s : Shared} {elt target iter : Expr} {ifs : List Expr} {scope : Scope} {pos : Pos} {it acc : Value} {env : Env} (J : Nat → Shared → Prop)
    (turn : ∀ n s, J n s → wpAny (model prog w) A (pyNext it) (fun r s₁ => match r with
      | none => R (.ok .next) s₁
      | some v => wpAny (model prog w) A (letOwnedTupleGo target it v) (fun _ s₁' => wpAny (model prog w) A (assign target env v) (fun _ s₂ =>
          wpAny (model prog w) A (forIn ifs true fun c r => if r = true then do let ok ← isTrue c env (eval c env); pure (ForInStep.yield ok) else pure (ForInStep.yield r)) (fun ok s₃ =>
            if ok = true then wpAny (model prog w) A (eval elt env) (fun x s₄ =>
              wpAny (model prog w) A (call (.builtin "list.append") [acc, x]) (fun _ s₅ => ∃ m, m < n ∧ J m s₅) (fun _ _ => False) s₄) (fun _ _ => False) s₃
            else ∃ m, m < n ∧ J m s₃) (fun _ _ => False) s₂) (fun _ _ => False) s₁') (fun _ _ => False) s₁) (fun _ _ => False) s)
    (n : Nat) (h : J n s) :
    codeAny (model prog w) A (.compLoop (.ListComp elt [⟨target, iter, ifs, 0⟩] scope pos) 0 it acc env) R s := by
  refine codeAny_loop rfl J (fun n s hI => ?_) n h
  show wpAny _ A ((compTurn (.ListComp elt [⟨target, iter, ifs, 0⟩] scope pos) 0 it acc env).onRaise (fun x => do noteFrame x env; theTreesLotGoes x)) _ _ s
  refine wpAny_noted ?_
  rw [compTurn_list]
  refine wpAny_bind (wpAny_standAt (wpAny_bind (wpAny_mono (turn n s hI) (fun r s₁ h₁ => ?_) fun _ _ h' => h'.elim)))
  cases r with
  | none => exact wpAny_pure h₁
  | some v =>
    refine wpAny_bind (wpAny_mono h₁ (fun _ s₁' h₁' => ?_) fun _ _ h' => h'.elim)
    refine wpAny_bind (wpAny_mono h₁' (fun _ s₂ h₂ => wpAny_bind (wpAny_mono h₂ (fun ok s₃ h₃ => ?_) fun _ _ h' => h'.elim)) fun _ _ h' => h'.elim)
    cases ok with
    | false => exact wpAny_pure ⟨rfl, h₃⟩
    | true =>
      exact wpAny_bind (wpAny_bind (wpAny_mono h₃ (fun x s₄ h₄ => wpAny_bind (wpAny_mono h₄ (fun _ s₅ h₅ => wpAny_pure (wpAny_pure ⟨rfl, h₅⟩)) fun _ _ h' => h'.elim)) fun _ _ h' => h'.elim))
/-- the reading: W by the turn, a measure, the items so far -/
abbrev LcIn (cap : List (Option Nat)) (g : TG) (tt : TT) (te : TE) (σ : St) (Q : VK) (J : It) (H1 : Hp) : Prop := ∃ W : Nat → Nat → List V → Hp → Prop, (∃ m, W 0 m [] H1) ∧ ∀ i m ys H, W i m ys H →
  (J.stop i H ∧ ∀ p, H p = none → Q (.ref p) (upd H p (.lst ys))) ∨
  (J.go i H ∧ ys.length < sizeLine ∧ ∀ x H', J.yld i H x H' → g x (capSt cap σ) H' fun σ2 H2 => tt σ2 H2 fun b H3 => if b = true then te σ2 H3 fun v H4 => ∃ m', m' < m ∧ W (i + 1) m' (ys ++ [v]) H4 else ∃ m', m' < m ∧ W (i + 1) m' ys H3)
def tLc (cap : List (Option Nat)) (wi : TI) (g : TG) (tt : TT) (te : TE) : TE := fun σ H Q => wi σ H (LcIn cap g tt te σ Q)
section
variable {X : Cx}
theorem pe_lc {elt tg iter : Expr} {ifs : List Expr} {scope : Scope} {pos : Pos} {cl : List (Str × Addr)} {NY : List Str} {cap : List (Option Nat)} {wi : TI} {g : TG} {tt : TT} {te : TE} (hc : X.calm = true) (hi : PI X tg iter wi)
    (hclos : closureFor scope X.env = pure cl) (hci : CellsIn X.env cl) (hcap : CapOk X.env (relabel scope X.env) X.N NY cap)
    (hb : ∀ fp s H C, PG (cxComp X scope cl NY fp s H C) tg g ∧ PIfs (cxComp X scope cl NY fp s H C) ifs tt ∧ PE (cxComp X scope cl NY fp s H C) elt te)
    (hkind : scope.kind = .function := by rfl) (hnc : (scope.names.all fun y => y.2 != .cell) = true := by rfl)
    (hnames : (scope.names.all fun y => y.2 != .local || scope.names.lookup y.1 == some .local) = true := by rfl)
    (hhas : ((relabel scope X.env).names.all fun p => (p.2 != .cell && p.2 != .free) || (cl.lookup p.1).isSome) = true := by rfl)
    (hs : ∀ x, foldedSetIterable iter X.env x = pure x := by intro _; rfl) :
    PE X (.ListComp elt [⟨tg, iter, ifs, 0⟩] scope pos) (tLc cap wi g tt te) := by
  have hnc' : ∀ y ∈ scope.names, y.2 ≠ .cell := fun y hy => by
    have q := List.all_eq_true.mp hnc y hy
    simpa using q
  have hnames' : ∀ y ∈ scope.names, y.2 = .local → scope.names.lookup y.1 = some .local := fun y hy e => by
    have q := List.all_eq_true.mp hnames y hy
    rw [e] at q
    simpa using q
  intro pins s σ H Q I h
  rw [eval_ListComp]
  refine wpAny_comprehension_free (use := none) rfl hs hclos hkind hnames' (wpAny_mono (hi pins s σ H _ I h) (fun v s1 h1 => wpAny_mono h1 (fun itv s2 h2 => ?_) fun _ _ e => e) fun _ _ e => e)
  obtain ⟨it, fp, tn, J, H2, e, I2, T, st2, f2, W, ⟨m0, w0⟩, turn⟩ := h2
  subst e
  refine wpAny_newObj_type (wpAny_newFunctionEnv hnc' (by intro y hy; simp at hy) (fun h₁ hns₁ hsb₁ => ?_) hkind)
  dsimp only at hns₁ hsb₁ ⊢
  generalize hH2 : s2.heap.push { cls := .type "list", dict := none, data := .seq ([] : List Value).toArray } = G2 at hns₁ hsb₁ ⊢
  have hC : G2.objs.size = s2.heap.objs.size + 1 := by rw [← hH2, Heap.size_push]
  have hDC : s2.heap.objs.size ≠ G2.objs.size := by rw [hC]; exact Nat.ne_of_lt (Nat.lt_succ_self _)
  have hDlt : s2.heap.objs.size ≤ G2.objs.size := by rw [hC]; exact Nat.le_succ _
  have below : ∀ b, b < s2.heap.objs.size → b ≠ G2.objs.size ∧ b ≠ s2.heap.objs.size := fun b hb => ⟨by rw [hC]; exact Nat.ne_of_lt (Nat.lt_succ_of_lt hb), Nat.ne_of_lt hb⟩
  have old : ∀ b o, s2.heap.get? b = some o → h₁.get? b = some o := fun b o e => hsb₁.extBut b o (below b (Heap.lt_size e)).1 (Heap.get?_push_of_some _ (hH2 ▸ Heap.get?_push_of_some _ e))
  have hacc : h₁.get? s2.heap.objs.size = some { cls := .type "list", data := .seq ([] : List Value).toArray 0 } := hsb₁.extBut _ _ hDC (Heap.get?_push_of_some _ (hH2 ▸ Heap.get?_push_size _ rfl))
  have fpl : ∀ b ∈ fp, b < s2.heap.objs.size := fun b hb => by
    obtain ⟨o, e, _⟩ := T.obj _ _ st2 b hb
    exact Heap.lt_size e
  have freshD : H2 s2.heap.objs.size = none := I2.hok.fresh (Nat.le_refl _)
  have freshC : H2 G2.objs.size = none := I2.hok.fresh hDlt
  have cellLt : ∀ x c, X.env.cells.lookup x = some c → c < s2.heap.objs.size := fun x c e => by
    obtain ⟨v, q⟩ := I2.cell x c e
    exact q.lt
  have hclX : ∀ x c, cl.lookup x = some c → X.env.cells.lookup x = some c := fun x c e => hci.get e
  obtain ⟨hbg, hbt, hbe⟩ := hb fp s2 H2 G2.objs.size
  -- the block's context is sound
  have okY : (cxComp X scope cl NY fp s2 H2 G2.objs.size).Ok := by
    refine ⟨I2.ok.mod, hkind, I2.ok.glob, I2.ok.blt, hDlt, fun x y c e1 e2 => I2.ok.inj x y c (hclX x c e1) (hclX y c e2), fun x hx => ?_, fun x c hf _ => ?_, I2.ok.hd, I2.ok.frames, .inl rfl, fun b hb => ⟨(below b (fpl b hb)).1, fun x c e z => ?_⟩, I2.bs,
      Nat.le_trans I2.ok.bsz I2.sz, fun b o e hb => ?_, fun b hb hz => ?_, I2.stack, I2.stkFree⟩
    · have hx' : (relabel scope X.env).names.lookup x = some .cell ∨ (relabel scope X.env).names.lookup x = some .free := hx
      have key : ∀ k, (relabel scope X.env).names.lookup x = some k → (k = .cell ∨ k = .free) → ∃ c, cl.lookup x = some c := fun k e hk => by
        have q := List.all_eq_true.mp hhas (x, k) (PySem.mem_of_lookup e)
        have q' : (cl.lookup x).isSome = true := by
          rcases hk with rfl | rfl <;> simpa using q
        exact Option.isSome_iff_exists.mp q'
      rcases hx' with e | e
      · exact key _ e (.inl rfl)
      · exact key _ e (.inr rfl)
    · exact absurd (show false = true from hf) Bool.false_ne_true
    · exact (f2 b hb).2.2.2.2.1 x c (hclX x c e) z
    · rcases (f2 b hb).2.2.2.1 with z | z
      · exact I2.ok.noex b o e z
      · exact absurd (Nat.lt_of_lt_of_le (Heap.lt_size (I2.ok.bs b o e).1) z) (Nat.lt_irrefl _)
    · rcases List.mem_cons.mp (I2.stkSub b hz) with z | z
      · exact (f2 b hb).2.1 z
      · exact (f2 b hb).2.2.1 z
  have fpYs : ∀ {H' : Hp} {n : Nat} {its : List Value}, (∀ b ∈ fp, H' b = none) → ∀ b ∈ fp, FpOk (cxComp X scope cl NY fp s2 H2 G2.objs.size) [(s2.heap.objs.size, { cls := .type "list", data := .seq its.toArray n })] H' b := fun {H' n its} hn b hb => by
    refine ⟨hn b hb, (below b (fpl b hb)).1, fun hz => ?_, .inl hb, fun x c e => (f2 b hb).2.2.2.2.1 x c (hclX x c e), fun p hp => ?_⟩
    · rcases List.mem_cons.mp (I2.stkSub b hz) with z | z
      · exact (f2 b hb).2.1 z
      · exact (f2 b hb).2.2.1 z
    · have e : p = (s2.heap.objs.size, { cls := .type "list", data := .seq its.toArray n }) := by simpa [cxComp] using hp
      rw [e]
      exact Ne.symm (below b (fpl b hb)).2
  have nostk : ∀ b, s2.heap.objs.size ≤ b → b ∉ frs X.stack := fun b hb hz => by
    rcases List.mem_cons.mp (I2.stkSub b hz) with z | z
    · have := I2.lt; rw [← z] at this; exact absurd (Nat.lt_of_lt_of_le this hb) (Nat.lt_irrefl _)
    · exact I2.nofs hb z
  have IY0 : Inv (cxComp X scope cl NY fp s2 H2 G2.objs.size) [(s2.heap.objs.size, { cls := .type "list", data := .seq ([] : List Value).toArray 0 })] (capSt cap σ) H2 { s2 with heap := h₁, toks := s2.toks + ([] : List (Str × Value)).length } := by
    refine ⟨okY, rfl, I2.bare, Un.kept old, ⟨_, hns₁, fun j x v e1 e2 e3 => ?_⟩, fun x c e => ?_, freshC, fun x c e => I2.freeC x c (hclX x c e), fun p hp => ?_, I2.hok.kept old, ?_⟩
    · obtain ⟨i, h1, h2, h3, h4⟩ := CapOk.get (σ := σ) hcap e1 e2
      obtain ⟨m, hn, hl⟩ := I2.loc
      have vis : Vis X.env.scope x := by rcases h3 with z | z; exact .inr (.inl z); exact .inr (.inr z)
      obtain ⟨u, r, l⟩ := hl i x v h1 h2 vis
      refine ⟨u, r, .inr ⟨h4, ?_⟩⟩
      rcases l with ⟨k, _⟩ | ⟨_, c, e, z⟩
      · rcases h3 with z | z <;> (rw [k] at z; cases z)
      · obtain ⟨c', e'⟩ := okY.has x h4
        have e' : cl.lookup x = some c' := e'
        have e'' := hclX x c' e'
        rw [e] at e''
        cases e''
        obtain ⟨o, ho, hd⟩ := z
        exact ⟨c, e', o, old _ _ ho, hd⟩
    · obtain ⟨v, o, ho, hd⟩ := I2.cell x c (hclX x c e)
      exact ⟨v, o, old _ _ ho, hd⟩
    · have e : p = (s2.heap.objs.size, { cls := .type "list", data := .seq ([] : List Value).toArray 0 }) := by simpa [cxComp] using hp
      rw [e]
      exact ⟨hacc, freshD, hDC, nostk _ (Nat.le_refl _), fun v z => by cases z⟩
    · show (capSt cap σ).length = NY.length
      unfold capSt
      rw [List.length_map]
      exact hcap.len
  have hcY : (cxComp X scope cl NY fp s2 H2 G2.objs.size).calm = true := hc
  have stW : tn 0 h₁ := T.keep _ _ _ st2 fun b _ o e => old b o e
  -- the loop
  have loop : ∀ s₃ : Shared, s₃ = { s2 with heap := h₁, toks := s2.toks + ([] : List (Str × Value)).length } →
      codeAny (model X.prog X.w) X.A (.compLoop (.ListComp elt [⟨tg, iter, ifs, 0⟩] scope pos) 0 (.ref it) (.ref s2.heap.objs.size) (compEnvC scope cl G2.objs.size X.env))
        (compPost (model X.prog X.w) X.A X.xe none (EP X pins σ Q) (.ref s2.heap.objs.size) G2.objs.size) s₃ := by
    rintro s₃ rfl
    refine compLoopG (fun n s' => ∃ i ys its k H', Inv (cxComp X scope cl NY fp s2 H2 G2.objs.size) [(s2.heap.objs.size, { cls := .type "list", data := .seq its.toArray k })] (capSt cap σ) H' s' ∧ Vals ys its ∧ ys.length ≤ sizeLine ∧ tn i s'.heap ∧ (∀ b ∈ fp, H' b = none) ∧ W i n ys H') ?_ m0
      ⟨0, [], [], 0, H2, IY0, .nil, Nat.zero_le _, stW, fun b hb => (f2 b hb).1, w0⟩
    rintro n s3 ⟨i, ys, its, k, H3, I3, rv, hz, st3, fr3, w3⟩
    rcases turn i n ys H3 w3 with ⟨stop, qn⟩ | ⟨go, hlt, step⟩
    · refine wpAny_mono (T.done (cxComp X scope cl NY fp s2 H2 G2.objs.size) rfl rfl rfl hcY i _ s3 _ H3 (fun _ _ => False) I3 (fpYs fr3) st3 stop) (fun r s4 ⟨hr, I4⟩ => ?_) fun _ _ z => z
      subst hr
      obtain ⟨m, hnC, _⟩ := id I4.loc
      have hnC : s4.heap.Ns G2.objs.size m := hnC
      refine ⟨m, hnC, fun h' hsb => ?_⟩
      have pD := (I4.pin (s2.heap.objs.size, { cls := .type "list", data := .seq its.toArray k }) (by simp [cxComp]))
      have un : Un (frs X.stack) fp H2 H3 s2.heap s4.heap := I4.base
      have I5 : Inv X pins σ H3 s4 := I2.call' (ch := fp) I4.os un I4.hok I4.bare fun b hb => ⟨(f2 b hb).2.2.2.1, (f2 b hb).2.1, (f2 b hb).2.2.2.2.1, (f2 b hb).2.2.2.2.2⟩
      have cC : H3 G2.objs.size = none := I4.free
      have szX : X.s₀.heap.objs.size ≤ s2.heap.objs.size := I2.sz
      have I6 : Inv X pins σ H3 { s4 with heap := h' } := I5.turned (t' := s4.toks) (it := G2.objs.size) (fun b o hb e => hsb.extBut b o hb e) cC (Nat.ne_of_gt (Nat.lt_of_lt_of_le I2.lt hDlt)) (.inr (Nat.le_trans szX hDlt))
        (fun x c e z => absurd (cellLt x c e) (by rw [z]; exact Nat.not_lt.mpr hDlt)) (fun p hp z => absurd (Heap.lt_size (I2.pin p hp).1) (by rw [z]; exact Nat.not_lt.mpr hDlt))
      have I7 : Inv X pins σ (upd H3 s2.heap.objs.size (.lst ys)) { s4 with heap := h' } := I6.adopt pD.2.1 szX (Nat.ne_of_gt I2.lt) (fun x c e => Nat.ne_of_lt (cellLt x c e)) (fun p hp => Nat.ne_of_lt (Heap.lt_size (I2.pin p hp).1))
        ⟨hz, its, k, rv, hsb.extBut _ _ hDC pD.1⟩
      exact ⟨.ref s2.heap.objs.size, _, I7, rfl, qn _ pD.2.1⟩
    · refine wpAny_mono (T.item (cxComp X scope cl NY fp s2 H2 G2.objs.size) rfl rfl rfl hcY i _ s3 _ H3 (fun _ _ => False) I3 (fpYs fr3) st3 go) (fun r s4 ⟨u, hr, h4⟩ => ?_) fun _ _ z => z
      subst hr
      refine wpAny_mono h4 (fun _ s5 ⟨x, H5, I5, r5, y5, st5, fr5⟩ => ?_) fun _ _ z => z
      have I5' := I5.pinned (fpYs fr5) (T.obj _ _ st5)
      refine wpAny_mono (hbg _ s5 _ H5 x u _ I5' r5 (step x H5 y5)) (fun _ s6 ⟨σ6, H6, I6, q6⟩ => ?_) fun _ _ z => z
      refine wpAny_mono (hbt _ s6 σ6 H6 _ I6 q6) (fun ok s7 ⟨H7, I7, q7⟩ => ?_) fun _ _ z => z
      have lenY : ∀ {σ' : St} {pn} {H'} {s'}, Inv (cxComp X scope cl NY fp s2 H2 G2.objs.size) pn σ' H' s' → (capSt cap σ).length = σ'.length := fun {σ' pn H' s'} Z => IY0.len.trans Z.len.symm
      have captured : ∀ {σ' : St} {pn} {H'} {s'}, Inv (cxComp X scope cl NY fp s2 H2 G2.objs.size) pn σ' H' s' → Inv (cxComp X scope cl NY fp s2 H2 G2.objs.size) pn (capSt cap σ) H' s' := fun {σ' pn H' s'} Z => by
        refine ⟨Z.ok, Z.os, Z.bare, Z.base, ?_, Z.cell, Z.free, Z.freeC, Z.pin, Z.hok, IY0.len⟩
        obtain ⟨m, hn, _⟩ := Z.loc
        refine ⟨m, hn, fun j x v e1 e2 e3 => ?_⟩
        obtain ⟨i', h1, h2, h3, h4⟩ := CapOk.get (σ := σ) hcap e1 e2
        obtain ⟨m', hn', hl⟩ := I2.loc
        have vis : Vis X.env.scope x := by rcases h3 with z | z; exact .inr (.inl z); exact .inr (.inr z)
        obtain ⟨u, r, l⟩ := hl i' x v h1 h2 vis
        refine ⟨u, r, .inr ⟨h4, ?_⟩⟩
        rcases l with ⟨kk, _⟩ | ⟨_, c, e, z⟩
        · rcases h3 with z | z <;> (rw [kk] at z; cases z)
        · obtain ⟨c', e'⟩ := okY.has x h4
          have e' : cl.lookup x = some c' := e'
          have e'' := hclX x c' e'
          rw [e] at e''
          cases e''
          obtain ⟨o, ho, hd⟩ := z
          have nfp : c ∉ fp := fun hz => (f2 c hz).2.2.2.2.1 x c e rfl
          obtain ⟨sl, q⟩ := Z.base.any (show s2.heap.get? c = some o from ho) (I2.freeC x c e) nfp
          exact ⟨c, e', _, q, hd⟩
      have again : ∀ {ys' : List V} {its' : List Value} {k' : Nat} {σ' : St} {H' : Hp} {s' : Shared}, Inv (cxComp X scope cl NY fp s2 H2 G2.objs.size) ([(s2.heap.objs.size, { cls := .type "list", data := .seq its'.toArray k' })] ++ pinsAt fp s5.heap) σ' H' s' → Vals ys' its' → ys'.length ≤ sizeLine →
          (∃ m', m' < n ∧ W (i + 1) m' ys' H') → ∃ m, m < n ∧ ∃ i ys its k H', Inv (cxComp X scope cl NY fp s2 H2 G2.objs.size) [(s2.heap.objs.size, { cls := .type "list", data := .seq its.toArray k })] (capSt cap σ) H' s' ∧ Vals ys its ∧ ys.length ≤ sizeLine ∧ tn i s'.heap ∧ (∀ b ∈ fp, H' b = none) ∧ W i m ys H' := fun {ys' its' k' σ' H' s'} Z rv' hz' hw => by
        obtain ⟨m', hm, w'⟩ := hw
        refine ⟨m', hm, i + 1, ys', its', k', H', captured Z.unpinned, rv', hz', T.keep _ _ _ st5 fun b hb o e => (Z.pin (b, o) (List.mem_append_right _ (List.mem_append_right _ (mem_pinsAt hb e)))).1, fun b hb => ?_, w'⟩
        obtain ⟨o, e, d⟩ := T.obj _ _ st5 b hb
        exact (Z.pin (b, o) (List.mem_append_right _ (List.mem_append_right _ (mem_pinsAt hb e)))).2.1
      cases ok with
      | false =>
        rw [if_neg Bool.false_ne_true] at q7 ⊢
        exact again I7 rv hz q7
      | true =>
        rw [if_pos rfl] at q7 ⊢
        refine wpAny_mono (hbe _ s7 σ6 H7 _ I7 q7) (fun xv s8 ⟨v, H8, I8, r8, q8⟩ => ?_) fun _ _ z => z
        have pD := I8.pin (s2.heap.objs.size, { cls := .type "list", data := .seq its.toArray k }) (by simp [cxComp])
        have hlen := rv.length
        refine append_at pD.1 (fun h9 hs9 hD9 => ?_) (by rw [List.size_toArray]; omega)
        have I9 : Inv (cxComp X scope cl NY fp s2 H2 G2.objs.size) (pinsAt fp s5.heap) σ6 H8 s8 := I8.pins_of fun p hp => I8.pin p (List.mem_append_right _ (List.mem_append_right _ hp))
        have I10 : Inv (cxComp X scope cl NY fp s2 H2 G2.objs.size) (pinsAt fp s5.heap) σ6 H8 { s8 with heap := h9 } := I9.turned (t' := s8.toks) (it := s2.heap.objs.size) (fun b o hb e => hs9.extBut b o hb e) pD.2.1 hDC (.inr (Nat.le_refl _))
          (fun x c e => Nat.ne_of_lt (cellLt x c (hclX x c e))) fun p hp => by
            have hp' : p ∈ pinsAt fp s5.heap := by simpa [cxComp] using hp
            exact Ne.symm (Ne.symm (below _ (fpl _ (of_pinsAt hp').1)).2)
        have I11 : Inv (cxComp X scope cl NY fp s2 H2 G2.objs.size) ([(s2.heap.objs.size, { cls := .type "list", data := .seq (its ++ [xv]).toArray (k + 1) })] ++ pinsAt fp s5.heap) σ6 H8 { s8 with heap := h9 } := I10.pins_of fun p hp => by
          rcases List.mem_append.mp hp with z | z
          · have e : p = (s2.heap.objs.size, { cls := .type "list", data := .seq (its ++ [xv]).toArray (k + 1) }) := by simpa using z
            rw [e]
            refine ⟨?_, pD.2.1, hDC, nostk _ (Nat.le_refl _), fun v z => by cases z⟩
            rw [List.push_toArray] at hD9
            exact hD9
          · exact I10.pin p (List.mem_append_right _ z)
        exact again I11 (rv.append (.cons r8 .nil)) (by rw [List.length_append, List.length_singleton]; exact hlt) q8
  exact codeAny_compStart_list (loop _ rfl) (T.self _ 0 _ _ _ stW (loop _ rfl))
end
end L2

set_option Elab.async false
set_option linter.all false
set_option maxRecDepth 100000
set_option maxHeartbeats 4000000
namespace L2
open PySem PySem.Spec PyProof.Rows
section
variable {X : Cx}
/-! ### isinstance(x, T), T a built-in type -/
theorem call_isinst {n : String} : CallR X (.builtin "isinstance") (fun xs H Q => ∃ x t b, xs = [x, .ty n] ∧ TyOf X.K H x t ∧ PySem.W.kitOne X.K t (.type n) = some b ∧ Q (.bl b) H) := by
  intro pins s σ H xs us Q I r h
  obtain ⟨x, t, b, rfl, ty, e, q⟩ := h
  obtain ⟨u, w', rfl, rx, rt⟩ := vals2 r
  cases rt
  exact isinst_ok I rx ty e fun tk => ⟨.bl b, H, I.tok _, rfl, q⟩
/-! ### // by a positive divisor below 2 ^ 64 -/
theorem op_fdivB : OpR X (binaryOp .FloorDiv) (rI (fun _ j => 0 < j ∧ j < 2 ^ 64) fun i j => .int (i / j)) := opI fun i j _ _ _ _ _ hc q => by
  have h1 : (0 : Int) < j := hc.1
  have h2 : j < 2 ^ 64 := hc.2
  refine floordiv_int (by omega) (by rw [Int.fdiv_eq_ediv_of_nonneg i (by omega)]; exact q) (.inl (PyProof.noPylong_of_log2 ?_))
  have h3 : j.natAbs < 2 ^ 64 := by omega
  have h4 : j.natAbs ≠ 0 := by omega
  have h5 : j.natAbs.log2 < 64 := (Nat.log2_lt h4).mpr h3
  omega
/-! ### a def that is called -/
def Cal (P : Program) (w : World) (K : PySem.W.Frag) (mg : Str → Option Value) (base : Heap) (x : Str) (k : Nat) (ps : List Str) (sp : Sp) : Prop :=
  ∃ f fd, FnOk P w K mg base CX0 k f fd ps sp ∧ Binds K fd ps [] ∧ PySem.W.keepIn K (.ref f) = true ∧ mg x = some (.ref f)
theorem pe_cal {x : Str} {k k' : Nat} {ps : List Str} {sp : Sp} {e : Expr} {es : List Expr} {t : TA} {p pos : Pos} (C : Cal X.prog X.w X.K X.mg X.base x k ps sp) (hr : Room k' X.A) (hk : k ≤ k') (hg : Gl X x) (ha : PA X (e :: es) t)
    (hdb : (x == ("__debug__" : Str)) = false := by decide) (he : starEach (e :: es) X.env = (false, eval e X.env) :: starEach es X.env := by rfl) (hpl : (backTo pos (starEach es X.env)).any (·.1) = false := by rfl) :
    PE X (.Call (.Name x p) (e :: es) [] pos) (tCall sp [] E0 t) := by
  obtain ⟨f, fd, F, b, kp, m⟩ := C
  exact pe_call F (hr.mono hk) hg m kp b .nil pass0 ha hdb he hpl
end
/-! ### heaps that grew; one list among them may have changed -/
theorem Same.new {H : Hp} {p : Addr} (h : H p = none) (o : HO) : Same H (upd H p o) := fun b u q => by rw [upd_ne (ne_of_none q h)]; exact q
/-- all but w is as it was -/
def But (w : Addr) (H H' : Hp) : Prop := ∀ b o, b ≠ w → H b = some o → H' b = some o
theorem But.refl {w : Addr} {H : Hp} : But w H H := fun _ _ _ h => h
theorem But.trans {w : Addr} {H H1 H2 : Hp} (a : But w H H1) (b : But w H1 H2) : But w H H2 := fun c o n h => b c o n (a c o n h)
theorem But.of {w : Addr} {H H' : Hp} (a : Same H H') : But w H H' := fun c o _ h => a c o h
theorem But.new {w : Addr} {H : Hp} {p : Addr} (h : H p = none) (o : HO) : But w H (upd H p o) := But.of (Same.new h o)
theorem But.put {w : Addr} {H : Hp} {o : HO} : But w H (upd H w o) := fun b u n q => by rw [upd_ne n]; exact q
end L2

set_option Elab.async false
set_option linter.all false
set_option maxRecDepth 100000
set_option maxHeartbeats 4000000
namespace Srt
open PySem PySem.W PyProof.Rows
/-! ### the sort's questions, answered by keys that differ -/
def run {α : Type} (lt : Nat → Nat → Bool) : KasT α → α
  | .ret a => a
  | .ask i j k => run lt (k (lt i j))
section
variable (key : Nat → Int)
abbrev lt : Nat → Nat → Bool := fun i j => decide (key i < key j)
/-- the key at a place -/
def kp (p : Array Nat) (x : Nat) : Int := key (p.getD x 0)
/-- rising up to m -/
def Up (p : Array Nat) (m : Nat) : Prop := ∀ i j, i < j → j < m → kp key p i < kp key p j
def Down (p : Array Nat) (m : Nat) : Prop := ∀ i j, i < j → j < m → kp key p j < kp key p i
/-- no two places below n bear one key -/
def Apart (p : Array Nat) (n : Nat) : Prop := ∀ i j, i < n → j < n → kp key p i = kp key p j → i = j
variable {key}
end
end Srt

set_option Elab.async false
set_option linter.all false
set_option maxRecDepth 100000
set_option maxHeartbeats 4000000
namespace Srt
open PySem PySem.W PyProof.Rows
/-! ### the sort asks for places that are there -/
def Safe {α : Type} (n : Nat) : KasT α → (α → Prop) → Prop
  | .ret a, Q => Q a
  | .ask i j k, Q => i < n ∧ j < n ∧ ∀ b, Safe n (k b) Q
def Ent (n : Nat) (p : Array Nat) : Prop := ∀ x, p.getD x 0 < n
/-! ### sorted of a list of one item or none -/
section
variable {prog : Program} {w : World} {A : Around} {E : Value → Shared → Prop} {s : Shared}
end
end Srt

set_option Elab.async false
set_option linter.all false
set_option maxRecDepth 100000
set_option maxHeartbeats 2000000
namespace L2
open PySem PySem.Spec PyProof.Rows
/-! ### == and != of values, lists and tuples to any depth -/
inductive EqR (K : PySem.W.Frag) (H : Hp) : Nat → V → V → Bool → Prop
  | flat {n : Nat} {x y : V} (fx : flatV x = true) (fy : flatV y = true) : EqR K H n x y (eqV x y)
  | lens {n : Nat} {a b : Addr} {xs ys : List V} (ha : SqL K H a xs) (hb : SqL K H b ys) (hl : xs.length ≠ ys.length) : EqR K H (n + 1) (.ref a) (.ref b) false
  | lst {n : Nat} {a b : Addr} {xs ys : List V} {e : Nat → Bool} (ha : SqL K H a xs) (hb : SqL K H b ys) (hl : xs.length = ys.length) (h : ∀ (j : Nat) x y, xs[j]? = some x → ys[j]? = some y → EqR K H n x y (e j)) : EqR K H (n + 1) (.ref a) (.ref b) ((List.range xs.length).all e)
  | tup {n : Nat} {a b : Addr} {xs ys : List V} {e : Nat → Bool} (ha : SqT K H a xs) (hb : SqT K H b ys) (h : ∀ (j : Nat) x y, xs[j]? = some x → ys[j]? = some y → EqR K H n x y (e j)) :
      EqR K H (n + 1) (.ref a) (.ref b) ((List.range (min xs.length ys.length)).all e && xs.length == ys.length)
theorem eqV_self {x : V} (f : flatV x = true) : eqV x x = true := by
  cases x <;> first | rfl | (simp [eqV]; done) | exact absurd (show false = true from f) Bool.false_ne_true
section
variable {X : Cx} {pins : List (Addr × Obj)} {σ : St} {H : Hp} {s : Shared}
theorem EqR.self (I : Inv X pins σ H s) {n : Nat} {x y : V} {b : Bool} (h : EqR X.K H n x y b) : x = y → b = true := by
  induction h with
  | flat fx fy => intro e; subst e; exact eqV_self fx
  | lens ha hb hl =>
    intro e
    injection e with e; subst e
    exact absurd (by rw [I.list_inj ha hb]) hl
  | @lst n a b xs ys e ha hb hl h ih =>
    intro q
    injection q with q; subst q
    obtain rfl := I.list_inj ha hb
    rw [List.all_eq_true]
    intro j hj
    have hj' : j < xs.length := List.mem_range.mp hj
    exact ih j _ _ (List.getElem?_eq_getElem hj') (List.getElem?_eq_getElem hj') rfl
  | @tup n a b xs ys e ha hb h ih =>
    intro q
    injection q with q; subst q
    obtain rfl := I.tuple_inj ha hb
    rw [Bool.and_eq_true, List.all_eq_true]
    refine ⟨fun j hj => ?_, beq_self_eq_true _⟩
    have hj' : j < xs.length := by have := List.mem_range.mp hj; omega
    exact ih j _ _ (List.getElem?_eq_getElem hj') (List.getElem?_eq_getElem hj') rfl
theorem paired_at {xs : List V} {its : List Value} (r : Vals xs its) {j : Nat} (h : j < its.toArray.size) : ∃ x, xs[j]? = some x ∧ RelV x its.toArray[j] := by
  have hl := r.length
  have h' : j < xs.length := by rw [hl]; simpa using h
  obtain ⟨u, hu, ru⟩ := r.get (List.getElem?_eq_getElem h')
  refine ⟨_, List.getElem?_eq_getElem h', ?_⟩
  have e : its.toArray[j] = u := by
    have : its[j]? = some u := hu
    rw [List.getElem?_eq_getElem (by simpa using h)] at this
    simpa using Option.some.inj this
  rw [e]; exact ru
theorem EqR.at (I : Inv X pins σ H s) {n : Nat} {x y : V} {b : Bool} (h : EqR X.K H n x y b) : ∀ {A : Around} {u v : Value}, RelV x u → RelV y v → A.units + n < cLine → SeqAt.EqAt A s u v b := by
  induction h with
  | flat fx fy => intro A u v rx ry hu; exact eqAt_V rx ry fx fy
  | @lens n a b xs ys ha hb hl =>
    intro A u v rx ry hu
    cases rx; cases ry
    obtain ⟨its, r, pl, _⟩ := I.list ha
    obtain ⟨its2, r2, pl2, _⟩ := I.list hb
    have ne : a ≠ b := fun e => by subst e; exact hl (by rw [I.list_inj ha hb])
    refine .of_refs ne (.lists_lengths pl.isList pl2.isList ?_ (by omega))
    rw [List.size_toArray, List.size_toArray, ← r.length, ← r2.length]
    exact bne_iff_ne.mpr hl
  | @lst n a b xs ys e ha hb hl h ih =>
    intro A u v rx ry hu
    by_cases q : a = b
    · have := (EqR.lst ha hb hl h).self I (by rw [q])
      cases rx; cases ry
      rw [this]
      subst q
      exact SeqAt.EqAt.same _
    · cases rx; cases ry
      obtain ⟨its, r, pl, _⟩ := I.list ha
      obtain ⟨its2, r2, pl2, _⟩ := I.list hb
      have e1 : its.toArray.size = xs.length := by rw [List.size_toArray, r.length]
      rw [← e1]
      refine .of_refs q (.lists pl.isList pl2.isList (by rw [List.size_toArray, List.size_toArray, ← r.length, ← r2.length]; exact hl) (by omega) fun j h1 h2 => ?_)
      obtain ⟨x, hx, rx⟩ := paired_at r h1
      obtain ⟨y, hy, ry⟩ := paired_at r2 h2
      exact ih j x y hx hy rx ry (by show A.units + 1 + n < cLine; omega)
  | @tup n a b xs ys e ha hb h ih =>
    intro A u v rx ry hu
    by_cases q : a = b
    · have := (EqR.tup ha hb h).self I (by rw [q])
      cases rx; cases ry
      rw [this]
      subst q
      exact SeqAt.EqAt.same _
    · cases rx; cases ry
      obtain ⟨its, r, pl, _⟩ := I.tuple ha
      obtain ⟨its2, r2, pl2, _⟩ := I.tuple hb
      have e1 : its.toArray.size = xs.length := by rw [List.size_toArray, r.length]
      have e2 : its2.toArray.size = ys.length := by rw [List.size_toArray, r2.length]
      rw [← e1, ← e2]
      refine .of_refs q (.tuples pl pl2 (by omega) fun j h1 h2 => ?_)
      obtain ⟨x, hx, rx⟩ := paired_at r h1
      obtain ⟨y, hy, ry⟩ := paired_at r2 h2
      exact ih j x y hx hy rx ry (by show A.units + 1 + n < cLine; omega)
/-- two lists compared -/
def rEqL (K : PySem.W.Frag) (neg : Bool) : R2 := fun x y H Q => ∃ n a b xs ys, n ≤ 60 ∧ x = .ref a ∧ y = .ref b ∧ SqL K H a xs ∧ SqL K H b ys ∧
  ((xs.length ≠ ys.length ∧ Q (.bl neg) H) ∨ ∃ e : Nat → Bool, xs.length = ys.length ∧ (∀ (j : Nat) x y, xs[j]? = some x → ys[j]? = some y → EqR K H n x y (e j)) ∧ Q (.bl (if neg then !(List.range xs.length).all e else (List.range xs.length).all e)) H)
theorem op_eqL (hu : X.A.units + 64 < cLine) : OpR X (compareOp .Eq) (rEqL X.K false) := by
  intro pins s σ H x y v u Q I rx ry h
  obtain ⟨n, a, b, xs, ys, hn, rfl, rfl, ha, hb, h⟩ := h
  cases rx; cases ry
  obtain ⟨its, r, pl, _⟩ := I.list ha
  obtain ⟨its2, r2, pl2, _⟩ := I.list hb
  have e1 : its.toArray.size = xs.length := by rw [List.size_toArray, r.length]
  have e2 : its2.toArray.size = ys.length := by rw [List.size_toArray, r2.length]
  rcases h with ⟨hl, q⟩ | ⟨e, hl, he, q⟩
  · exact SeqAt.eq_list_lengthsAt pl.isList pl2.isList (by rw [e1, e2]; exact bne_iff_ne.mpr hl) (by omega) ⟨.bl false, H, I, rfl, q⟩
  · refine SeqAt.eq_listAt (e := e) pl.isList pl2.isList (by rw [e1, e2]; exact hl) (by omega) (fun j h1 h2 => ?_) ?_
    · obtain ⟨x, hx, rx⟩ := paired_at r h1
      obtain ⟨y, hy, ry⟩ := paired_at r2 h2
      exact (he j x y hx hy).at I rx ry (by show X.A.units + 1 + n < cLine; omega)
    · rw [e1]; exact ⟨.bl _, H, I, rfl, q⟩
theorem op_neL (hu : X.A.units + 64 < cLine) : OpR X (compareOp .NotEq) (rEqL X.K true) := by
  intro pins s σ H x y v u Q I rx ry h
  obtain ⟨n, a, b, xs, ys, hn, rfl, rfl, ha, hb, h⟩ := h
  cases rx; cases ry
  obtain ⟨its, r, pl, _⟩ := I.list ha
  obtain ⟨its2, r2, pl2, _⟩ := I.list hb
  have e1 : its.toArray.size = xs.length := by rw [List.size_toArray, r.length]
  have e2 : its2.toArray.size = ys.length := by rw [List.size_toArray, r2.length]
  rcases h with ⟨hl, q⟩ | ⟨e, hl, he, q⟩
  · exact SeqAt.RcNeAt.lists_lengths pl.isList pl2.isList (by rw [e1, e2]; exact bne_iff_ne.mpr hl) (by omega) _ _ _ _ ⟨.bl true, H, I, rfl, q⟩
  · refine SeqAt.RcNeAt.lists (e := e) pl.isList pl2.isList (by rw [e1, e2]; exact hl) (by omega) (fun j h1 h2 => ?_) _ _ _ _ ?_
    · obtain ⟨x, hx, rx⟩ := paired_at r h1
      obtain ⟨y, hy, ry⟩ := paired_at r2 h2
      exact (he j x y hx hy).at I rx ry (by show X.A.units + 1 + n < cLine; omega)
    · rw [e1]; exact ⟨.bl _, H, I, rfl, q⟩
end
/-! ### sorted of a list of pairs of ints -/
abbrev PairIn (H : Hp) (p : Int × Int) (v : V) : Prop := ∃ a, v = .ref a ∧ H a = some (.tup [.int p.1, .int p.2])
abbrev PairsIn (H : Hp) : List (Int × Int) → List V → Prop := Paired (PairIn H)
def pkey (p : Int × Int) : Int := p.1 * 1000 + p.2
def Fine (ps : List (Int × Int)) : Prop := (∀ p ∈ ps, 0 ≤ p.2 ∧ p.2 < 1000) ∧ ps.Nodup
theorem Inv.adopt2 {X : Cx} {pins : List (Addr × Obj)} {σ : St} {H : Hp} {s : Shared} {a : Addr} {o : HO} (I : Inv X pins σ H s) (hn : H a = none) (hx : ∀ u, X.s₀.heap.get? a ≠ some u) (hL : a ≠ X.env.locals) (hC : ∀ x c, X.env.cells.lookup x = some c → c ≠ a) (hp : ∀ p ∈ X.pn ++ pins, p.1 ≠ a)
    (new : ObjOk X.prog X.w (upd H a o) s.heap a o) : Inv X pins σ (upd H a o) s := by
  have ne : ∀ b u, X.s₀.heap.get? b = some u → b ≠ a := fun b u e z => hx u (by rw [← z]; exact e)
  refine ⟨I.ok, I.os, I.bare, ⟨I.base.keep, I.base.slot, fun b u e n hx => ?_, I.base.there, fun b xs e => ?_, fun b u xs e => ?_, fun b ps e => ?_⟩, I.loc, I.cell, ?_, fun x c e => ?_, fun p hq => ?_, fun b u e => ?_, I.len⟩
  · rw [upd_ne (ne b u e)]; exact I.base.free b u e n hx
  · have q := I.base.tups b xs e
    rw [upd_ne (ne_of_none q hn)]; exact q
  · have q := I.base.frzs b u xs e
    rw [upd_ne (ne_of_none q hn)]; exact q
  · obtain ⟨m, q⟩ := I.base.tbls b ps e
    exact ⟨m, by rw [upd_ne (ne_of_none q hn)]; exact q⟩
  · rw [upd_ne (Ne.symm hL)]; exact I.free
  · rw [upd_ne (hC x c e)]; exact I.freeC x c e
  · obtain ⟨h1, h2, h3⟩ := I.pin p hq
    exact ⟨h1, by rw [upd_ne (hp p hq)]; exact h2, h3⟩
  · by_cases hb : b = a
    · subst hb; rw [upd_same] at e; cases e; exact new
    · rw [upd_ne hb] at e
      exact (I.hok b u e).stay (fun c v _ q => q) (fun c q => by rw [upd_ne (ne_of_none q hn)]; exact q) fun c xs q => by rw [upd_ne (ne_of_none q hn)]; exact q
end L2

set_option Elab.async false
set_option linter.all false
set_option maxRecDepth 100000
set_option maxHeartbeats 2000000
namespace L2
open PySem PySem.Spec PyProof.Rows
theorem ObjOk.get {P : Program} {w : World} {H : Hp} {h : Heap} {a : Addr} {o : HO} (x : ObjOk P w H h a o) : ∃ u, h.get? a = some u := by
  cases o with
  | lst xs => obtain ⟨_, _, _, _, e⟩ := x; exact ⟨_, e⟩
  | tup xs => obtain ⟨_, _, _, o, e, _⟩ := x; exact ⟨_, e⟩
  | dK kvs => obtain ⟨_, _, _, _, o, _, _, e, _⟩ := x; exact ⟨_, e⟩
  | dT kvs => obtain ⟨_, _, _, _, o, _, _, e, _⟩ := x; exact ⟨_, e⟩
  | set S n => obtain ⟨o, _, _, _, e, _⟩ := x; exact ⟨_, e⟩
  | ins C dx fs => obtain ⟨_, _, _, e, _⟩ := x; exact ⟨_, e⟩
  | own y => obtain ⟨_, e⟩ := x; exact ⟨_, e⟩
  | xd fs => obtain ⟨_, ⟨_, _, _, e, _⟩, _⟩ := x; exact ⟨_, e⟩
  | rng lo hi => obtain ⟨_, _, _, e⟩ := x; exact ⟨_, e⟩
  | frz ob u => obtain ⟨e, _⟩ := x; exact ⟨_, e⟩
  | tbl ps => exact ⟨_, (show h.get? a = some _ from x)⟩
  | met f y => exact ⟨_, (show h.get? a = some _ from x)⟩
  | ext φ => obtain ⟨_, ⟨_, e⟩, _⟩ := x; exact ⟨_, e⟩
section
variable {X : Cx}
end
end L2

set_option Elab.async false
set_option linter.all false
set_option maxRecDepth 100000
set_option maxHeartbeats 2000000
namespace L2
open PySem PySem.Spec PyProof.Rows
theorem iteDT {c A B : Prop} [Decidable c] (hc : c) (h : A) : if decide c = true then A else B := by
  rw [if_pos (decide_eq_true hc)]; exact h
theorem iteDF {c A B : Prop} [Decidable c] (hc : ¬ c) (h : B) : if decide c = true then A else B := by
  rw [if_neg (fun e => hc (of_decide_eq_true e))]; exact h
/-! ### rules whose reading names the fragment alone (for a comprehension's block) -/
section
variable {X : Cx} {K : PySem.W.Frag}
theorem ix_listK (hK : X.K = K) : IxR X (rIxL K) := by subst hK; exact ix_list
end
/-! ### comprehensions by a word -/
def Nxt (n i : Nat) (P : Prop) : Prop := ∃ m', m' < n - i ∧ m' = n - (i + 1) ∧ i + 1 ≤ n ∧ P
/-! ### equal things -/
end L2

set_option Elab.async false
set_option linter.all false
set_option maxRecDepth 100000
set_option maxHeartbeats 2000000
namespace L2
open PySem PySem.Spec PyProof.Rows
/-! ### things as data (dicts with ints and texts as keys) -/
def kDat : Key → PyData
  | .inl i => .int i
  | .inr x => .str x
mutual
def Dat (H : Hp) : PyData → V → Prop
  | .none, v => v = .non
  | .bool b, v => v = .bl b
  | .int i, v => v = .int i
  | .str x, v => v = .str x
  | .list ds, v => ∃ a xs, v = .ref a ∧ H a = some (.lst xs) ∧ DatAll H ds xs
  | .tuple ds, v => ∃ a xs, v = .ref a ∧ H a = some (.tup xs) ∧ DatAll H ds xs
  | .dict kvs, v => ∃ a ks, v = .ref a ∧ H a = some (.dK ks) ∧ DatKv H kvs ks
def DatAll (H : Hp) : List PyData → List V → Prop
  | [], vs => vs = []
  | d :: ds, vs => ∃ v r, vs = v :: r ∧ Dat H d v ∧ DatAll H ds r
def DatKv (H : Hp) : List (PyData × PyData) → List (Key × V) → Prop
  | [], ks => ks = []
  | (k, d) :: r, ks => ∃ q v t, ks = (q, v) :: t ∧ k = kDat q ∧ Dat H d v ∧ DatKv H r t
end
mutual
theorem Dat.mono {H H' : Hp} (g : Same H H') : ∀ (d : PyData) (v : V), Dat H d v → Dat H' d v
  | .none, v, h => h
  | .bool b, v, h => h
  | .int i, v, h => h
  | .str x, v, h => h
  | .list ds, v, h => by
    simp only [Dat] at h ⊢
    obtain ⟨a, xs, e, h1, h2⟩ := h
    exact ⟨a, xs, e, g _ _ h1, DatAll.mono g ds xs h2⟩
  | .tuple ds, v, h => by
    simp only [Dat] at h ⊢
    obtain ⟨a, xs, e, h1, h2⟩ := h
    exact ⟨a, xs, e, g _ _ h1, DatAll.mono g ds xs h2⟩
  | .dict kvs, v, h => by
    simp only [Dat] at h ⊢
    obtain ⟨a, xs, e, h1, h2⟩ := h
    exact ⟨a, xs, e, g _ _ h1, DatKv.mono g kvs xs h2⟩
theorem DatAll.mono {H H' : Hp} (g : Same H H') : ∀ (ds : List PyData) (vs : List V), DatAll H ds vs → DatAll H' ds vs
  | [], vs, h => h
  | d :: ds, vs, h => by
    simp only [DatAll] at h ⊢
    obtain ⟨v, r, e, h1, h2⟩ := h
    exact ⟨v, r, e, Dat.mono g d v h1, DatAll.mono g ds r h2⟩
theorem DatKv.mono {H H' : Hp} (g : Same H H') : ∀ (kvs : List (PyData × PyData)) (ks : List (Key × V)), DatKv H kvs ks → DatKv H' kvs ks
  | [], ks, h => h
  | (k, d) :: r, ks, h => by
    simp only [DatKv] at h ⊢
    obtain ⟨q, v, t, e1, e2, h1, h2⟩ := h
    exact ⟨q, v, t, e1, e2, Dat.mono g d v h1, DatKv.mono g r t h2⟩
end
theorem DatAll.len {H : Hp} : ∀ {ds : List PyData} {vs : List V}, DatAll H ds vs → ds.length = vs.length
  | [], vs, h => by simp only [DatAll] at h; rw [h]; rfl
  | d :: ds, vs, h => by
    simp only [DatAll] at h
    obtain ⟨v, r, rfl, _, h2⟩ := h
    rw [List.length_cons, List.length_cons, DatAll.len h2]
theorem DatAll.app {H : Hp} : ∀ {as : List PyData} {vs : List V} {bs : List PyData} {us : List V}, DatAll H as vs → DatAll H bs us → DatAll H (as ++ bs) (vs ++ us)
  | [], vs, bs, us, h, k => by simp only [DatAll] at h; subst h; exact k
  | d :: as, vs, bs, us, h, k => by
    simp only [DatAll] at h
    obtain ⟨v, r, rfl, h1, h2⟩ := h
    show DatAll H (d :: (as ++ bs)) (v :: (r ++ us))
    simp only [DatAll]
    exact ⟨v, _, rfl, h1, DatAll.app h2 k⟩
theorem DatAll.one {H : Hp} {d : PyData} {v : V} (h : Dat H d v) : DatAll H [d] [v] := by simp only [DatAll]; exact ⟨v, [], rfl, h, rfl⟩
theorem DatAll.last {H : Hp} : ∀ {ds : List PyData} {vs : List V}, DatAll H ds vs → vs ≠ [] → ∃ ds' d vs' v, ds = ds' ++ [d] ∧ vs = vs' ++ [v] ∧ DatAll H ds' vs' ∧ Dat H d v
  | [], vs, h, ne => by simp only [DatAll] at h; exact absurd h ne
  | [d], vs, h, ne => by
    simp only [DatAll] at h
    obtain ⟨v, r, rfl, h1, rfl⟩ := h
    exact ⟨[], d, [], v, rfl, rfl, by simp only [DatAll], h1⟩
  | d :: e :: ds, vs, h, ne => by
    have h' := h
    simp only [DatAll] at h
    obtain ⟨v, r, rfl, h1, v2, r2, rfl, h2, h3⟩ := h
    have h23 : DatAll H (e :: ds) (v2 :: r2) := by simp only [DatAll]; exact ⟨v2, r2, rfl, h2, h3⟩
    obtain ⟨ds', d', vs', v', e1, e2, h4, h5⟩ := DatAll.last h23 (by simp)
    refine ⟨d :: ds', d', v :: vs', v', by rw [e1]; rfl, by rw [e2]; rfl, ?_, h5⟩
    simp only [DatAll]; exact ⟨v, vs', rfl, h1, h4⟩
theorem len3 {α : Type} {xs : List α} (h : xs.length = 3) : ∃ x y z, xs = [x, y, z] := match xs, h with | [x, y, z], _ => ⟨x, y, z, rfl⟩
/-- the heap without the thing at w -/
def off (w : Addr) (H : Hp) : Hp := fun b => if b = w then none else H b
theorem off_ne {w b : Addr} {H : Hp} (h : b ≠ w) : off w H b = H b := if_neg h
theorem off_le {w : Addr} {H : Hp} : Same (off w H) H := fun b o h => by
  unfold off at h
  by_cases c : b = w
  · rw [if_pos c] at h; cases h
  · rw [if_neg c] at h; exact h
theorem off_but {w : Addr} {H H' : Hp} (g : But w H H') : Same (off w H) (off w H') := fun b o h => by
  by_cases c : b = w
  · unfold off at h; rw [if_pos c] at h; cases h
  · rw [off_ne c] at h ⊢; exact g b o c h
/-- the type's name of a thing -/
def tyName : PyData → String
  | .none => "NoneType"
  | .bool _ => "bool"
  | .int _ => "int"
  | .str _ => "str"
  | .list _ => "list"
  | .tuple _ => "tuple"
  | .dict _ => "dict"
theorem Dat.ty {K : PySem.W.Frag} {H : Hp} {d : PyData} {v : V} (h : Dat H d v) : TyOf K H v (.type (tyName d)) := by
  cases d with
  | none => simp only [Dat] at h; subst h; exact .non
  | bool b => simp only [Dat] at h; subst h; exact .bl b
  | int i => simp only [Dat] at h; subst h; exact .int i
  | str x => simp only [Dat] at h; subst h; exact .str x
  | list ds => simp only [Dat] at h; obtain ⟨a, xs, rfl, e, _⟩ := h; exact .lst e
  | tuple ds => simp only [Dat] at h; obtain ⟨a, xs, rfl, e, _⟩ := h; exact .tup e
  | dict kvs => simp only [Dat] at h; obtain ⟨a, xs, rfl, e, _⟩ := h; exact .dK e
section
variable {X : Cx} {pins : List (Addr × Obj)} {σ : St} {H : Hp} {s : Shared}
theorem Inv.nosys (I : Inv X pins σ H s) {a : Addr} {o : HO} (h : H a = some o) : a ≠ sysModules := fun e => by
  obtain ⟨mm, ob, es, ep, g, _⟩ := I.mod.sysm
  have := (I.bs _ _ g).2
  rw [← e, h] at this; cases this
theorem key_reads {P : Program} {w : World} {h : Heap} {q : Key} {v : Value} (e : (mixKind P w).is q v = true) : Reads h v (kDat q) [] := by
  rw [mixKind_is] at e
  rcases keyIs_shape e with ⟨i, t, rfl, rfl⟩ | ⟨x, t, rfl, rfl⟩
  · exact .int i t
  · exact .str x t
mutual
theorem Dat.reads (I : Inv X pins σ H s) : ∀ (d : PyData) (v : V) (u : Value), Dat H d v → RelV v u → ∃ as, Reads s.heap u d as ∧ sysModules ∉ as
  | .none, v, u, h, r => by
    simp only [Dat] at h; subst h; cases r; exact ⟨_, .none, by simp⟩
  | .bool b, v, u, h, r => by
    simp only [Dat] at h; subst h; cases r; exact ⟨_, .bool b, by simp⟩
  | .int i, v, u, h, r => by
    simp only [Dat] at h; subst h; obtain ⟨t, rfl⟩ := r; exact ⟨_, .int i t, by simp⟩
  | .str x, v, u, h, r => by
    simp only [Dat] at h; subst h; obtain ⟨t, rfl⟩ := r; exact ⟨_, .str x t, by simp⟩
  | .list ds, v, u, h, r => by
    simp only [Dat] at h
    obtain ⟨a, xs, rfl, hr, hd⟩ := h
    cases r
    obtain ⟨its, rv, ⟨o, n, e1, e2, _, e3⟩, _⟩ := I.list (SqL.of hr)
    obtain ⟨as, ra, na⟩ := DatAll.reads I ds xs its hd rv
    have ho := hr
    refine ⟨_, .list e1 e2 e3 (by simpa using ra), fun z => ?_⟩
    rcases List.mem_cons.mp z with z | z
    · exact I.nosys ho z.symm
    · exact na z
  | .tuple ds, v, u, h, r => by
    simp only [Dat] at h
    obtain ⟨a, xs, rfl, hr, hd⟩ := h
    cases r
    obtain ⟨its, rv, ⟨o, e1, e2, n, e3⟩, _⟩ := I.tuple (SqT.of hr)
    obtain ⟨as, ra, na⟩ := DatAll.reads I ds xs its hd rv
    exact ⟨_, .tuple e1 e2 e3 (by simpa using ra), na⟩
  | .dict kvs, v, u, h, r => by
    simp only [Dat] at h
    obtain ⟨a, ks, rfl, hr, hd⟩ := h
    cases r
    obtain ⟨_, _, vs, rel, o, es, ep, e1, ex, e3, _, pr, _⟩ := dk_of I.hok hr
    obtain ⟨as, bs, ra, rb, na, nb⟩ := DatKv.reads I kvs ks vs es.toList hd rel pr
    have ho := hr
    refine ⟨_, .dict e1 ex.1 e3 ra rb, fun z => ?_⟩
    rcases List.mem_append.mp z with z | z
    · rcases List.mem_cons.mp z with z | z
      · exact I.nosys ho z.symm
      · exact na z
    · exact nb z
theorem DatAll.reads (I : Inv X pins σ H s) : ∀ (ds : List PyData) (vs : List V) (us : List Value), DatAll H ds vs → Vals vs us → ∃ as, ReadsAll s.heap us ds as ∧ sysModules ∉ as
  | [], vs, us, h, r => by
    simp only [DatAll] at h; subst h; cases r; exact ⟨_, .nil, by simp⟩
  | d :: ds, vs, us, h, r => by
    simp only [DatAll] at h
    obtain ⟨v, t, rfl, h1, h2⟩ := h
    cases r with
    | cons r1 r2 =>
      obtain ⟨as, ra, na⟩ := Dat.reads I d v _ h1 r1
      obtain ⟨bs, rb, nb⟩ := DatAll.reads I ds t _ h2 r2
      exact ⟨_, .cons ra rb, fun z => (List.mem_append.mp z).elim na nb⟩
theorem DatKv.reads (I : Inv X pins σ H s) : ∀ (kvs : List (PyData × PyData)) (ks : List (Key × V)) (vs : List (Key × Value)) (es : List DictEntry), DatKv H kvs ks → KV ks vs → Pairs (mixKind X.prog X.w) es vs →
    ∃ as bs, ReadsAll s.heap (es.map (·.key)) (kvs.map (·.1)) as ∧ ReadsAll s.heap (es.map (·.val)) (kvs.map (·.2)) bs ∧ sysModules ∉ as ∧ sysModules ∉ bs
  | [], ks, vs, es, h, r, p => by
    simp only [DatKv] at h; subst h; cases r; cases p; exact ⟨_, _, .nil, .nil, by simp, by simp⟩
  | (k, d) :: kr, ks, vs, es, h, r, p => by
    simp only [DatKv] at h
    obtain ⟨q, v, t, rfl, rfl, h1, h2⟩ := h
    cases r with
    | cons r1 r2 =>
      cases p with
      | cons p1 p2 p3 =>
        obtain ⟨rk, rv⟩ := r1
        obtain ⟨as, bs, ra, rb, na, nb⟩ := DatKv.reads I kr t _ _ h2 r2 p3
        obtain ⟨cs, rc, nc⟩ := Dat.reads I d v _ h1 rv
        have rk' : q = _ := rk
        subst rk'
        have kd := key_reads (h := s.heap) p1
        refine ⟨[] ++ as, cs ++ bs, .cons kd ra, .cons (by dsimp only; rw [p2]; exact rc) rb, by simpa using na, fun z => (List.mem_append.mp z).elim nc nb⟩
end
/-- repr(x) -/
theorem call_repr (hg : X.A.guards = some []) (hu : X.A.units + 64 < cLine) : CallR X (.builtin "repr") (fun xs H Q => ∃ x d, xs = [x] ∧ Dat H d x ∧ d.showable = true ∧ d.depth ≤ 60 ∧ d.shown.length ≤ sizeLine ∧ Q (.str d.shown) H) := by
  intro pins s σ H xs us Q I r h
  obtain ⟨x, d, rfl, hd, hs, hdp, hl, q⟩ := h
  obtain ⟨u, rfl, ru⟩ := vals1 r
  have key : ∀ a, u = .ref a → wpAny (model X.prog X.w) X.A (call (.builtin "repr") [u]) (EP X pins σ Q) X.xe s := fun a e => by
    subst e
    obtain ⟨as, ra, na⟩ := Dat.reads I d x _ hd ru
    refine repr_of_reads' ra hs (fun _ => na) hg (by omega) (fun _ _ e => e) (fun h' u tk hk => ?_) hl
    exact ⟨.str d.shown, H, I.kept hk, ⟨u, rfl⟩, q⟩
  cases d with
  | none =>
    simp only [Dat] at hd; subst hd; cases ru
    rw [PyData.shown_none] at q
    exact PySem.P.repr_of_none ⟨.str "None", H, I.tok _, ⟨_, rfl⟩, q⟩
  | bool b =>
    simp only [Dat] at hd; subst hd; cases ru
    rw [PyData.shown_bool] at q
    exact PySem.P.repr_of_bool ⟨.str _, H, I.tok _, ⟨_, rfl⟩, q⟩
  | int i =>
    simp only [Dat] at hd; subst hd; obtain ⟨t, rfl⟩ := ru
    rw [PyData.shown_int] at q
    exact PySem.P.repr_of_int (by simpa [PyData.showable] using hs) ⟨.str _, H, I.tok _, ⟨_, rfl⟩, q⟩
  | str z =>
    simp only [Dat] at hd; subst hd; obtain ⟨t, rfl⟩ := ru
    rw [PyData.shown_str] at q hl
    exact PySem.P.repr_of_str ⟨.str _, H, I.tok _, ⟨_, rfl⟩, q⟩ hl
  | list ds =>
    have hd' := hd
    simp only [Dat] at hd'
    obtain ⟨a, _, rfl, _⟩ := hd'
    exact key a ru
  | tuple ds =>
    have hd' := hd
    simp only [Dat] at hd'
    obtain ⟨a, _, rfl, _⟩ := hd'
    exact key a ru
  | dict kvs =>
    have hd' := hd
    simp only [Dat] at hd'
    obtain ⟨a, _, rfl, _⟩ := hd'
    exact key a ru
end
end L2

set_option Elab.async false
set_option linter.all false
set_option maxRecDepth 100000
set_option maxHeartbeats 2000000
namespace L2
open PySem PySem.Spec PyProof.Rows
section
variable {X : Cx}
/-! ### == and != of things -/
def rEqD (neg : Bool) : R2 := fun x y H Q => ∃ d e, Dat H d x ∧ Dat H e y ∧ d.canLay0 = true ∧ e.canLay0 = true ∧ d.depth ≤ 60 ∧ Q (.bl (if neg then !PyData.eqv d e else PyData.eqv d e)) H
/-! ### products of great numbers -/
theorem bits_le {i : Int} (h : i.natAbs < 2 ^ 4000) : Builtin.Int.intBits i ≤ 2 ^ 20 := by
  have : Builtin.Int.intBits i ≤ 4000 := by
    unfold Builtin.Int.intBits
    by_cases c : i = 0
    · simp [c]
    · rw [if_neg (by simpa using c)]
      have h4 : i.natAbs ≠ 0 := fun z => c (Int.natAbs_eq_zero.mp z)
      exact (Nat.log2_lt h4).mpr h
  have e : (4000 : Nat) ≤ 2 ^ 20 := by decide
  omega
theorem op_mulB : OpR X (binaryOp .Mult) (rI (fun i j => i.natAbs < 2 ^ 4000 ∧ j.natAbs < 2 ^ 4000) fun i j => .int (i * j)) := opI fun _ _ _ _ _ _ _ hc q => mul_int q (IntMulOk.of_bits (bits_le hc.1) (bits_le hc.2))
/-! ### xs[::-1] -/
/-! ### x.index(y) of texts -/
end
end L2

set_option Elab.async false
set_option linter.all false
set_option maxRecDepth 100000
set_option maxHeartbeats 2000000
namespace L2
open PySem PySem.Spec PyProof.Rows
/-! ### enumerate of a list -/
def Iten (K : PySem.W.Frag) (a : Addr) : It :=
  ⟨fun i H => ∃ xs x, SqL K H a xs ∧ xs[i]? = some x, fun i H x H' => ∃ p y, H p = none ∧ x = .ref p ∧ H' = upd H p (.tup [.int i, y]) ∧ ∀ xs, SqL K H a xs → xs[i]? = some y, fun i H => ∃ xs, SqL K H a xs ∧ xs.length ≤ i⟩
def iEnum (K : PySem.W.Frag) (ta : TA) : TI := fun σ H R => ta σ H fun vs H1 => ∃ a, vs = [.ref a] ∧ (∃ xs, SqL K H1 a xs) ∧ R (Iten K a) H1
end L2

set_option Elab.async false
set_option linter.all false
set_option maxRecDepth 100000
set_option maxHeartbeats 2000000
namespace L2
open PySem PySem.Spec PyProof.Rows
section
variable {prog : Program} {w : World} {κ : Type} [DecidableEq κ] {knd : HeapKind prog w κ} {A : Around} {E : Value → Shared → Prop} {s : Shared}
theorem setHashed_heap {d a : Addr} {xs : List (κ × Addr × Value)} {k : κ} {v : Value} {Q : Unit → Shared → Prop} (hu : knd.room A) (hkey : knd.is s.heap k a) (hm : s.heap.DictOfH knd d xs)
    (hQ : ∀ h', h'.DictOfH knd d (storedH xs k a v) → Heap.SameBut d s.heap h' → Q () { s with heap := h' })
    (hsz : xs.length ≤ sizeLine) :
    wpAny (model prog w) A (dictSetHashed d (.ref a) (knd.hash k) v) Q E s := by
  obtain ⟨o, es, ep, ho, hc, hd, he, his, hn⟩ := hm
  unfold dictSetHashed
  try with_reducible refine wpAny_holding ?_
  refine wpAny_bind (wpAny_dictFind_heap hu hkey ho hd he his hn ?_ ?_)
  · intro hno
    have hnot : k ∉ xs.map (·.1) := not_mem_keys_of_get hno
    refine wpAny_bind (wpAny_rule (wpAny_updateDictKeys (hz := by have e := size_of_entries he; omega) ho hd (hQ _ ⟨_, _, ep + 1, Heap.get?_update_self _ ho (Obj.isFreed_of_dict (Obj.data_mapDictKeys hd _)),
      hc.mapDictKeys _, Obj.data_mapDictKeys hd _, ?_, ?_, ?_⟩ (Heap.SameBut.update ..))))
    · rw [storedH_new (atKey_none_of_get hno)]
      simp [he, entryOfKey]
    · rw [storedH_new (atKey_none_of_get hno)]
      intro x hx
      rcases List.mem_append.mp hx with hx | hx
      · exact knd.keeps (his x hx) ho hd (Heap.SameBut.update ..)
      · simp only [List.mem_singleton] at hx
        subst hx
        exact knd.keeps hkey ho hd (Heap.SameBut.update ..)
    · rw [storedH_new (atKey_none_of_get hno)]
      rw [List.map_append, List.nodup_append]
      refine ⟨hn, by simp, ?_⟩
      intro x hx y hy
      simp only [List.map_cons, List.map_nil, List.mem_singleton] at hy
      subst hy
      exact fun e => hnot (e ▸ hx)
  · intro j p hj
    refine wpAny_bind (wpAny_rule (wpAny_bind (wpAny_updateDict ho hd (wpAny_point (hQ _ ⟨_, _, ep, Heap.get?_update_self _ ho (Obj.isFreed_of_dict (Obj.data_mapDict hd _)),
      hc.mapDict _, Obj.data_mapDict hd _, ?_, ?_, ?_⟩ (Heap.SameBut.update ..))))))
    · rw [storedH_old (atKey_of_get hn hj)]
      have := modify_map_putAt (entryOfKey knd) (fun e : DictEntry => { e with val := v }) k v (fun _ _ => rfl) hn hj
      rw [← he] at this
      obtain ⟨l⟩ := es
      simpa using this
    · rw [storedH_old (atKey_of_get hn hj)]
      intro x hx
      obtain ⟨y, hy, rfl⟩ := List.mem_map.mp hx
      unfold putAt
      split <;> exact knd.keeps (his y hy) ho hd (Heap.SameBut.update ..)
    · rw [storedH_old (atKey_of_get hn hj)]
      rw [keys_map_putAt]; exact hn
def mergedH (xs more : List (κ × Addr × Value)) : List (κ × Addr × Value) := more.foldl (fun acc x => storedH acc x.1 x.2.1 x.2.2) xs
theorem mergedH_take (xs more : List (κ × Addr × Value)) (i : Nat) (x : κ × Addr × Value) (h : more[i]? = some x) : mergedH xs (more.take (i + 1)) = storedH (mergedH xs (more.take i)) x.1 x.2.1 x.2.2 := by
  unfold mergedH
  rw [List.take_add_one, h, List.foldl_append]; rfl
theorem storedH_len (xs : List (κ × Addr × Value)) (k : κ) (a : Addr) (v : Value) : (storedH xs k a v).length ≤ xs.length + 1 := by
  unfold storedH; split <;> simp
theorem mergedH_len : ∀ (more xs : List (κ × Addr × Value)), (mergedH xs more).length ≤ xs.length + more.length
  | [], xs => by show xs.length ≤ xs.length + 0; omega
  | p :: r, xs => by
    have h1 := mergedH_len r (storedH xs p.1 p.2.1 p.2.2)
    have h2 := storedH_len xs p.1 p.2.1 p.2.2
    show (mergedH (storedH xs p.1 p.2.1 p.2.2) r).length ≤ _
    rw [List.length_cons]; omega
theorem mergeDict_heap {nm : String} {d o : Addr} {xs more : List (κ × Addr × Value)} {Q : Unit → Shared → Prop} (hu : knd.room A) (hdo : d ≠ o) (hoS : (o == sysModules) = false)
    (hd : s.heap.DictOfH knd d xs) (ho : s.heap.DictOfH knd o more) (hne : xs ≠ [])
    (hQ : ∀ h', h'.DictOfH knd d (mergedH xs more) → Heap.SameBut d s.heap h' → Q () { s with heap := h' })
    (hsz : xs.length + more.length ≤ sizeLine) :
    wpAny (model prog w) A (Builtin.Dict.mergeDict nm d o) Q E s := by
  obtain ⟨od, esd, epd, hod, hcd, hdd, hpd, hid, hnd⟩ := id hd
  obtain ⟨oo, eso, epo, hoo, hco, hdo', hpo, hio, hno⟩ := id ho
  unfold Builtin.Dict.mergeDict
  rw [if_neg (by simpa using hdo)]
  unfold Builtin.Dict.showsAll
  rw [if_neg (by rw [hoS]; exact Bool.false_ne_true)]
  refine wpAny_bind (wpAny_pure ?_)
  refine wpAny_bind (wpAny_dictEntries hoo hdo' ?_)
  have hlen : more.length = eso.size := (size_of_entries hpo).symm
  have loop : wpAny (model prog w) A (do
      let epoch ← dictEpoch o
      let l ← dictEntries o
      forIn [:l.size] PUnit.unit fun i (_ : PUnit) => (do
          let l' ← dictEntries o
          match l'[i]? with
            | some e => do
              holding [e.key, e.val] (dictSetHashed d e.key e.hash e.val)
              let ep' ← dictEpoch o
              if (ep' != epoch) = true then do
                  (unsupported (toString nm ++ toString ":source-changed-during-callback") : Sem PUnit)
                  pure (ForInStep.yield PUnit.unit)
                else pure (ForInStep.yield PUnit.unit)
            | _ => do
              (unsupported "internal:dict-merge" : Sem PUnit)
              pure (ForInStep.yield PUnit.unit) : Sem (ForInStep PUnit))
      pure ()) Q E s := by
    refine wpAny_bind (wpAny_dictEpoch hoo hdo' ?_)
    refine wpAny_bind (wpAny_dictEntries hoo hdo' ?_)
    refine wpAny_bind ?_
    rw [Std.Legacy.Range.forIn_eq_forIn_range']
    simp only [Std.Legacy.Range.size, Nat.sub_zero, Nat.add_sub_cancel, Nat.div_one]
    refine wpAny_forIn_list _
      (fun rest _ s' => ∃ h' i, s' = { s with heap := h' } ∧ rest = List.range' i (eso.size - i) ∧ i ≤ eso.size ∧ h'.DictOfH knd d (mergedH xs (more.take i)) ∧ h'.get? o = some oo ∧ Heap.SameBut d s.heap h')
      _ ?_ ?_ _ _ ⟨s.heap, 0, rfl, by simp, Nat.zero_le _, by simpa [mergedH] using hd, hoo, Heap.SameBut.refl _ _⟩
    · rintro x rest b s' ⟨h', i, rfl, hr, hi, hd', hoo', hs'⟩
      have hlt : i < eso.size := by
        rcases Nat.lt_or_ge i eso.size with h | h
        · exact h
        · rw [Nat.sub_eq_zero_of_le h] at hr; simp at hr
      obtain ⟨rfl, hrest⟩ : x = i ∧ rest = List.range' (i + 1) (eso.size - (i + 1)) := by
        have e : eso.size - i = (eso.size - (i + 1)) + 1 := by omega
        rw [e, List.range'_succ] at hr
        injection hr with h1 h2
        exact ⟨h1, h2⟩
      refine wpAny_bind (wpAny_dictEntries hoo' hdo' ?_)
      obtain ⟨⟨k, a, v⟩, hkv⟩ : ∃ kv, more[x]? = some kv := ⟨more[x]'(by rw [hlen]; exact hlt), List.getElem?_eq_getElem _⟩
      rw [entry_at hpo x, hkv]
      have hkey : knd.is h' k a := knd.keeps (hio _ (List.mem_of_getElem? hkv)) hod hdd hs'
      show wpAny _ _ (holding [Value.ref a, v] (dictSetHashed d (.ref a) (knd.hash k) v) >>= _) _ _ _
      have hmx : (mergedH xs (more.take x)).length ≤ sizeLine := by
        have e1 := mergedH_len (more.take x) xs
        have e2 : (more.take x).length ≤ more.length := by rw [List.length_take]; omega
        omega
      refine wpAny_bind (wpAny_holding (setHashed_heap (hsz := hmx) hu hkey hd' fun h'' hd'' hs'' => ?_))
      have hoo'' : h''.get? o = some oo := (hs''.2 o (Ne.symm hdo)).trans hoo'
      refine wpAny_bind (wpAny_dictEpoch hoo'' hdo' ?_)
      rw [if_neg (by simp)]
      exact wpAny_pure ⟨h'', x + 1, rfl, hrest, hlt, by rw [mergedH_take xs more x (k, a, v) hkv]; exact hd'', hoo'', hs'.trans hs''⟩
    · rintro b s' ⟨h', i, rfl, hr, hi, hd', hoo', hs'⟩
      have hin : i = eso.size := by
        rcases Nat.lt_or_ge i eso.size with h | h
        · have e : eso.size - i = (eso.size - (i + 1)) + 1 := by omega
          rw [e, List.range'_succ] at hr; exact nomatch hr
        · exact Nat.le_antisymm hi h
      refine wpAny_pure (hQ h' ?_ hs')
      rw [hin, ← hlen, List.take_length] at hd'; exact hd'
  dsimp only
  split
  · refine wpAny_bind (wpAny_dictEntries hod hdd ?_)
    split
    · rename_i hemp
      exfalso
      have h0 : esd = #[] := Array.isEmpty_iff.mp hemp
      have h1 := size_of_entries hpd
      rw [h0] at h1
      exact hne (List.length_eq_zero_iff.mp h1.symm)
    · exact loop
  · exact loop
theorem meetsH_dict_update (d o : Addr) (hdo : d ≠ o) (hoS : (o == sysModules) = false) :
    MeetsIn prog w (Builtin.«dict.update» ⟨[.ref d, .ref o], []⟩) (fun A R s => ∃ xs more, knd.room A.in1 ∧ s.heap.DictOfH knd d xs ∧ s.heap.DictOfH knd o more ∧ xs ≠ [] ∧ xs.length + more.length ≤ sizeLine ∧
      ∀ h', h'.DictOfH knd d (mergedH xs more) → Heap.SameBut d s.heap h' → R (.ok (.ret .none)) { s with heap := h' }) :=
  .of_wp fun A R s ⟨xs, more, hu, hd, ho, hne, hsz, h⟩ => by
    unfold Builtin.«dict.update»
    refine wpAny_bind ?_
    unfold Builtin.Dict.selfAndRest
    refine wpAny_bind (wpAny_notOrdered_dict hd.typeIs ?_)
    show wpAny _ _ (pure (d, [Value.ref o])) _ _ s
    refine wpAny_pure ?_
    show wpAny _ _ (Builtin.Dict.updateFrom "dict.update" d (.ref o) [] .none) _ _ s
    unfold Builtin.Dict.updateFrom
    refine wpAny_bind (wpAny_typeOf ho.typeIs ?_)
    rw [if_neg (by decide)]
    refine wpAny_bind ?_
    unfold Builtin.Dict.merge
    refine wpAny_bind ?_
    unfold Builtin.Dict.readDirectly
    refine wpAny_bind (wpAny_isInstance ho.typeIs isSubtype_dict_dict ?_)
    simp only [Bool.not_true, Bool.false_eq_true, if_false]
    refine wpAny_bind (wpAny_specialOf ho.typeIs PySem.F.slot_dict_iter.lookup (wpAny_pure ?_))
    simp only [beq_self_eq_true, if_true]
    refine wpAny_bind (wpAny_pure ?_)
    refine mergeDict_heap (hsz := hsz) hu hdo hoS hd ho hne fun h' hd' hs' => ?_
    show wpAny _ _ (Builtin.Dict.addKeywords d [] >>= _) _ _ _
    exact wpAny_bind (wpAny_pure (wpAny_pure ⟨_, rfl, h h' hd' hs'⟩))
end
end L2

set_option Elab.async false
set_option linter.all false
set_option maxRecDepth 100000
set_option maxHeartbeats 2000000
namespace L2
open PySem PySem.Spec PyProof.Rows
/-! ### d.update(e) of dicts with tuple keys -/
def mergeT (kvs more : List (List Key × V)) : List (List Key × V) := more.foldl (fun acc kv => putK acc kv.1 kv.2) kvs
theorem mergeT_len : ∀ (more kvs : List (List Key × V)), (mergeT kvs more).length ≤ kvs.length + more.length
  | [], kvs => by show kvs.length ≤ kvs.length + 0; omega
  | p :: r, kvs => by
    have h1 := mergeT_len r (putK kvs p.1 p.2)
    have h2 := length_putK kvs p.1 p.2
    show (mergeT (putK kvs p.1 p.2) r).length ≤ _
    rw [List.length_cons]; omega
theorem KT.merge {H : Hp} {more : List (List Key × V)} {ys : List (List Key × Addr × Value)} (r : KT H more ys) : ∀ {kvs : List (List Key × V)} {xs : List (List Key × Addr × Value)}, KT H kvs xs → KT H (mergeT kvs more) (mergedH xs ys) := by
  unfold KT at r
  induction r with
  | nil => intro kvs xs q; exact q
  | @cons p q ps qs h t ih =>
    intro kvs xs r0
    obtain ⟨h1, h2, h3⟩ := h
    have z := KT.put r0 p.1 h2 h3
    have z2 := ih z
    show KT H (mergeT (putK kvs p.1 p.2) ps) (mergedH (storedH xs q.1 q.2.1 q.2.2) qs)
    rw [← h1]; exact z2
def rDUpd : V → List V → Hp → VK → Prop := fun x xs H Q => ∃ a b kvs more, x = .ref a ∧ xs = [.ref b] ∧ H a = some (.dT kvs) ∧ H b = some (.dT more) ∧ a ≠ b ∧ kvs ≠ [] ∧ kvs.length + more.length ≤ sizeLine ∧ Q .non (upd H a (.dT (mergeT kvs more)))
theorem mt_dupd {X : Cx} (hu : X.A.units + 1 < cLine) : MtM X "dict.update" rDUpd := by
  intro pins s σ H x vs v us Q I rx rv h
  obtain ⟨a, b, kvs, more, rfl, rfl, e, e', hab, hne, hz, q⟩ := h
  cases rx
  obtain ⟨u, rfl, ru⟩ := rv.one
  cases ru
  obtain ⟨z, hd, xs, rel, dd⟩ := dt_of I.hok e
  obtain ⟨z', hd', ys, rel', dd'⟩ := dt_of I.hok e'
  have lx := Paired.length rel
  have ly := Paired.length rel'
  refine call_meetsIn PySem.F.slot_dict_update dd.typeIs PySem.F.entry_dict_update (PySem.F.args_dict_update_2 _ _) (meetsH_dict_update (knd := tupleKind (mixKind X.prog X.w)) a b hab hd') ⟨xs, ys, tupleKind_room_in1 hu, dd, dd', ?_, by omega, fun h' dn hs => ?_⟩
  · intro q; subst q; exact hne (List.length_eq_zero_iff.mp lx)
  obtain ⟨q1, es, ep, hq, h2, h3, h4, _, h5⟩ := dn
  have hl := mergeT_len more kvs
  refine ⟨.non, _, d_write (t' := s.toks) (ob := .dT (mergeT kvs more)) I (by rw [e]; exact True.intro) hs ⟨q1, hq⟩ ⟨by omega, hd, _, (KT.merge rel' rel).keeps fun c ys ec => ?_, q1, es, ep, hq, h2, h3, h4, h5⟩, rfl, q⟩
  rw [upd_ne (ne_of ec e (fun z => nomatch z))]
  exact ec
/-! ### d.clear() -/
def rDClr : V → List V → Hp → VK → Prop := fun x xs H Q => ∃ a kvs, x = .ref a ∧ xs = [] ∧ H a = some (.dT kvs) ∧ Q .non (upd H a (.dT []))
/-! ### == and != of dicts with tuple keys -/
section
variable {prog : Program} {w : World} {κ : Type} [DecidableEq κ] {knd : HeapKind prog w κ} {A : Around} {E : Value → Shared → Prop} {s : Shared}
/-- all that ka says, kb says too -/
inductive HitsH (A : Around) (s : Shared) (kb : List (κ × Addr × Value)) : List (κ × Addr × Value) → Bool → Prop
  | nil : HitsH A s kb [] true
  | miss {k : κ} {a : Addr} {v : Value} {r : List (κ × Addr × Value)} : atKey kb k = none → HitsH A s kb ((k, a, v) :: r) false
  | hit {k : κ} {a c : Addr} {v y : Value} {r : List (κ × Addr × Value)} {e b : Bool} : atKey kb k = some (c, y) → SeqAt.EqAt A s v y e → HitsH A s kb r b → HitsH A s kb ((k, a, v) :: r) (e && b)
end
end L2

set_option Elab.async false
set_option linter.all false
set_option maxRecDepth 100000
set_option maxHeartbeats 2000000
namespace L2
open PySem PySem.Spec PyProof.Rows
/-- all that the pairs say, kb says too: one after another, to the first that it does not -/
inductive HitsV (K : PySem.W.Frag) (H : Hp) (n : Nat) (kb : List (List Key × V)) : List (List Key × V) → Bool → Prop
  | nil : HitsV K H n kb [] true
  | miss {k : List Key} {v : V} {r : List (List Key × V)} : valV kb k = none → HitsV K H n kb ((k, v) :: r) false
  | hit {k : List Key} {v y : V} {r : List (List Key × V)} {e b : Bool} : valV kb k = some y → EqR K H n v y e → HitsV K H n kb r b → HitsV K H n kb ((k, v) :: r) (e && b)
def rEqT (K : PySem.W.Frag) (neg : Bool) : R2 := fun x y H Q => ∃ n a b ka kb r, n ≤ 60 ∧ x = .ref a ∧ y = .ref b ∧ H a = some (.dT ka) ∧ H b = some (.dT kb) ∧ (ka.length = kb.length → HitsV K H n kb ka r) ∧
  Q (.bl (if neg then !(ka.length == kb.length && r) else (ka.length == kb.length && r))) H
end L2

set_option Elab.async false
set_option linter.all false
set_option maxRecDepth 100000
set_option maxHeartbeats 2000000
namespace L2
open PySem PySem.Spec PyProof.Rows
section
variable {prog : Program} {w : World} {κ : Type} [DecidableEq κ] {knd : HeapKind prog w κ} {A : Around} {E : Value → Shared → Prop}
theorem DictOfH.at {h : Heap} {d : Addr} {xs : List (κ × Addr × Value)} (m : h.DictOfH knd d xs) : ∃ o es ep, h.get? d = some o ∧ o.data = .dict es ep := let ⟨o, es, ep, h1, _, h2, _⟩ := m; ⟨o, es, ep, h1, h2⟩
theorem storeAll_heap {d : Addr} (hu : knd.room A) : ∀ (xs acc : List (κ × Addr × Value)) (s : Shared) (Q : PUnit → Shared → Prop), (∀ x ∈ xs, knd.is s.heap x.1 x.2.1) → s.heap.DictOfH knd d acc → acc.length + xs.length ≤ sizeLine →
    (∀ h' t', h'.DictOfH knd d (mergedH acc xs) → Heap.SameBut d s.heap h' → Q PUnit.unit { s with heap := h', toks := t' }) →
    wpAny (model prog w) A (forIn (xs.map fun x => (Value.ref x.2.1, x.2.2)) PUnit.unit fun (x : Value × Value) (_ : PUnit) => (do dictSet d x.1 x.2; pure (ForInStep.yield PUnit.unit) : Sem (ForInStep PUnit))) Q E s
  | [], acc, s, Q, _, hm, _, hQ => by
    rw [List.map_nil, List.forIn_nil]
    exact wpAny_pure (hQ s.heap s.toks hm (Heap.SameBut.refl _ _))
  | (k, a, v) :: xs, acc, s, Q, hk, hm, hsz, hQ => by
    rw [List.length_cons] at hsz
    rw [List.map_cons, List.forIn_cons]
    obtain ⟨o, es, ep, ho, hd⟩ := DictOfH.at hm
    refine wpAny_bind (wpAny_bind (wpAny_dictSet_heap (hsz := by omega) hu (hk _ (List.mem_cons_self ..)) hm fun h₁ hm₁ hs₁ => wpAny_pure ?_))
    refine storeAll_heap hu xs (storedH acc k a v) _ Q (fun x hx => knd.keeps (hk x (List.mem_cons_of_mem _ hx)) ho hd hs₁) hm₁ (by have e := storedH_len acc k a v; omega) fun h' t' hm' hs' => ?_
    exact hQ h' t' hm' (hs₁.trans hs')
variable {s : Shared}
theorem subDict_heap {pairs : List (Sem Value × Sem Value)} {Q : Addr → Shared → Prop} (hu : knd.room A) (hlen : pairs.length ≤ 15)
    (h : wpAny (model prog w) A (evalPairs pairs) (fun vs s₁ => ∃ xs : List (κ × Addr × Value), vs = xs.map (fun x => (Value.ref x.2.1, x.2.2)) ∧ xs.length ≤ 15 ∧ (∀ x ∈ xs, knd.is s₁.heap x.1 x.2.1) ∧ s₁.heap.DictOfH knd s.heap.objs.size [] ∧
      ∀ h' t', h'.DictOfH knd s.heap.objs.size (mergedH [] xs) → Heap.SameBut s.heap.objs.size s₁.heap h' → Q s.heap.objs.size { s₁ with heap := h', toks := t' }) E
      { s with heap := s.heap.push { cls := .type "dict", data := .dict #[] } }) :
    wpAny (model prog w) A (subDict pairs) Q E s := by
  unfold subDict
  refine wpAny_bind (wpAny_alloc ?_)
  refine wpAny_bind (wpAny_holding ?_)
  rw [if_pos hlen]
  refine wpAny_bind (wpAny_mono h (fun vs s₁ h₁ => ?_) fun _ _ e => e)
  obtain ⟨xs, rfl, hx, hk, hm, hQ⟩ := h₁
  have hsz : ([] : List (κ × Addr × Value)).length + xs.length ≤ sizeLine := by
    rw [sizeLine_eq, List.length_nil]; omega
  refine wpAny_holding ?_
  refine wpAny_bind (storeAll_heap (knd := knd) hu xs [] s₁ _ hk hm hsz fun h' t' hm' hs' => wpAny_pure (wpAny_pure (hQ h' t' hm' hs')))
theorem Dict_heap {env : Env} {keys : List (Option Expr)} {values : List Expr} {pos : Pos} {Q : Value → Shared → Prop} (hu : knd.room A)
    (hall : keys.all (·.isSome) = true) (hl : keys.length = values.length) (h0 : keys ≠ []) (hlen : keys.length ≤ 15)
    (h : wpAny (model prog w) A (evalPairs (pairTrees keys values env pos)) (fun vs s₁ => ∃ xs : List (κ × Addr × Value), vs = xs.map (fun x => (Value.ref x.2.1, x.2.2)) ∧ xs.length ≤ 15 ∧ (∀ x ∈ xs, knd.is s₁.heap x.1 x.2.1) ∧ s₁.heap.DictOfH knd s.heap.objs.size [] ∧
      ∀ h' t', h'.DictOfH knd s.heap.objs.size (mergedH [] xs) → Heap.SameBut s.heap.objs.size s₁.heap h' → Q (.ref s.heap.objs.size) { s₁ with heap := h', toks := t' }) E
      { s with heap := s.heap.push { cls := .type "dict", data := .dict #[] } }) :
    wpAny (model prog w) A (eval (.Dict keys values pos) env) Q E s := by
  have hn := pairTrees_length keys values env pos hall hl
  have hne : pairTrees keys values env pos ≠ [] := by
    intro he
    rw [he] at hn
    exact h0 (List.length_eq_zero_iff.mp hn.symm)
  rw [arm_eval_Dict, zip_pairTrees keys values env pos hall hl, dictDisplay_pairs _ hne (by omega)]
  exact wpAny_bind (wpAny_standAt (wpAny_bind (subDict_heap (knd := knd) (Q := fun d s' => wpAny (model prog w) A (pure (Value.ref d)) Q E s') hu (by omega)
    (wpAny_mono h (fun vs s₁ h₁ => by obtain ⟨xs, h1, h2, h3, h4, hq⟩ := h₁; exact ⟨xs, h1, h2, h3, h4, fun h' t' a b => wpAny_pure (hq h' t' a b)⟩) fun _ _ e => e))))
end
/-- {(..): v, ..}: the keys are tracked tuples -/
def tDispT (trs : List (TE × TE)) : TE := fun σ H Q => ∀ p, H p = none → tPairs trs σ (upd H p (.dT [])) fun ps H2 => H2 p = some (.dT []) ∧ ∃ bs : List (Addr × List Key × V), ps = bs.map (fun b => (V.ref b.1, b.2.2)) ∧ (∀ b ∈ bs, H2 b.1 = some (.tup (b.2.1.map kV))) ∧ bs.length ≤ 15 ∧
  Q (.ref p) (upd H2 p (.dT (mergeT [] (bs.map (·.2)))))
theorem carryT {H : Hp} : ∀ {bs : List (Addr × List Key × V)} {ws : List (Value × Value)}, VV (bs.map fun b => (V.ref b.1, b.2.2)) ws → (∀ b ∈ bs, H b.1 = some (.tup (b.2.1.map kV))) → ∃ xs : List (List Key × Addr × Value), ws = xs.map (fun x => (Value.ref x.2.1, x.2.2)) ∧ KT H (bs.map (·.2)) xs
  | [], _, r, _ => by rw [List.map_nil] at r; cases r; exact ⟨[], rfl, .nil⟩
  | (a, k, v) :: bs, _, r, hk => by
    rw [List.map_cons] at r
    cases r with
    | @cons x y as cs h t =>
      obtain ⟨xs, e, q⟩ := carryT t (fun b hb => hk b (List.mem_cons_of_mem _ hb))
      obtain ⟨y1, y2⟩ := y
      obtain ⟨h1, h2⟩ := h
      have e1 : y1 = Value.ref a := h1
      subst e1
      refine ⟨(k, a, y2) :: xs, by rw [e]; rfl, .cons ⟨rfl, hk _ (List.mem_cons_self ..), h2⟩ q⟩
theorem pe_dispT {X : Cx} {pos : Pos} {keys : List (Option Expr)} {values : List Expr} {trs : List (TE × TE)} (hu : X.A.units + 1 < cLine) (h : PPs X pos keys values trs) (hall : keys.all (·.isSome) = true := by rfl) (hl : keys.length = values.length := by rfl) (h0 : keys ≠ [] := by simp)
    (h15 : keys.length ≤ 15 := by decide) : PE X (.Dict keys values pos) (tDispT trs) := by
  intro pins s σ H Q I q
  have hn := I.hok.fresh (Nat.le_refl s.heap.objs.size)
  have I1 := I.laid (a := s.heap.objs.size) (o := .dT []) (h' := s.heap.push { cls := .type "dict", data := .dict #[] }) (t' := s.toks) (fun _ _ q => Heap.get?_push_of_some _ q) (Nat.le_refl _) (dt_empty s.heap I.big)
  have hr : (tupleKind (mixKind X.prog X.w)).room X.A := by show X.A.units < cLine; omega
  refine Dict_heap (knd := tupleKind (mixKind X.prog X.w)) hr hall hl h0 h15 (thn (h pins _ σ _ _ I1 (q _ hn)) fun ws s2 ⟨ps, H2, I2, rel, e, bs, ep, hk, lk, q2⟩ => ?_)
  subst ep
  obtain ⟨xs, ew, rk⟩ := carryT rel hk
  obtain ⟨z, hd, vs0, r0, dd⟩ := dt_of I2.hok e
  cases r0
  have lx := Paired.length rk
  rw [List.length_map] at lx
  refine ⟨xs, ew, by omega, fun x hx => ?_, dd, fun h' t' dd' hs => ⟨.ref s.heap.objs.size, _, ?_, rfl, q2⟩⟩
  · have all : ∀ {l : List (List Key × V)} {m : List (List Key × Addr × Value)}, KT H2 l m → ∀ x ∈ m, (tupleKind (mixKind X.prog X.w)).is s2.heap x.1 x.2.1 := by
      intro l m q
      induction q with
      | nil => intro x hx; exact nomatch hx
      | @cons p q ps qs hq t ih =>
        intro x hx
        rcases List.mem_cons.mp hx with e | hx
        · subst e
          exact key_of I2.hok (by rw [← hq.1]; exact hq.2.1)
        · exact ih x hx
    exact all rk x hx
  · have hz : (mergeT [] (bs.map (·.2))).length ≤ sizeLine := by
      have h1 := mergeT_len (bs.map (·.2)) []
      rw [List.length_nil, List.length_map] at h1
      rw [sizeLine_eq]; omega
    obtain ⟨q1, es, ep, hq, h2, h3, h4, _, h5⟩ := dd'
    refine d_write (ob := .dT (mergeT [] (bs.map (·.2)))) I2 (by rw [e]; exact True.intro) hs ⟨q1, hq⟩ ⟨hz, hd, _, (KT.merge rk .nil).keeps fun c ys ec => ?_, q1, es, ep, hq, h2, h3, h4, h5⟩
    rw [upd_ne (ne_of ec e (fun z => nomatch z))]
    exact ec
end L2

set_option Elab.async false
set_option linter.all false
set_option maxRecDepth 100000
set_option maxHeartbeats 2000000
namespace L2
open PySem PySem.Spec PyProof.Rows
/-! ### a dict is known to its object while it is walked -/
/-- the expression is reckoned while the dict is known to its object -/
def tFrz (t : TE) : TE := fun σ H Q => ∃ d kvs, H d = some (.dT kvs) ∧ ∀ o, t σ (upd H d (.frz o (.dT kvs))) fun v H' => H' d = some (.frz o (.dT kvs)) ∧ Q v (upd H' d (.dT kvs))
/-! ### the keys of a dict, one after another -/
section
variable {prog : Program} {w : World} {A : Around} {E : Value → Shared → Prop} {s : Shared}
end
def Itk (d : Addr) (o : Obj) (kvs : List (List Key × V)) : It :=
  ⟨fun i H => H d = some (.frz o (.dT kvs)) ∧ i < kvs.length, fun i H x H' => ∃ b, x = .ref b ∧ H' = H ∧ ∀ kv, kvs[i]? = some kv → H b = some (.tup (kv.1.map kV)), fun i H => H d = some (.frz o (.dT kvs)) ∧ kvs.length ≤ i⟩
def iKeys (tl : TE) : TI := fun σ H R => tl σ H fun x H1 => ∃ d o kvs, x = .ref d ∧ H1 d = some (.frz o (.dT kvs)) ∧ R (Itk d o kvs) H1
end L2

set_option Elab.async false
set_option linter.all false
set_option maxRecDepth 100000
set_option maxHeartbeats 2000000
namespace L2
open PySem PySem.Spec PyProof.Rows PySem.W
/-! ### d.values(), list of it -/
section
variable {prog : Program} {w : World} {A : Around} {E : Value → Shared → Prop} {s : Shared}
end
/-- the values' view of the dict at d -/
def viewV (p d : Addr) : HO := .ext fun h => h.get? p = some { cls := .type "dict_values", data := .fields #[.ref d] }
def rDVals : V → List V → Hp → VK → Prop := fun x xs H Q => ∃ a kvs, x = .ref a ∧ xs = [] ∧ H a = some (.dT kvs) ∧ ∀ p, H p = none → Q (.ref p) (upd H p (viewV p a))
end L2
namespace L2
theorem u1 {a : Nat} (h : a + 64 < PySem.cLine) : a + 1 < PySem.cLine := by omega
end L2

set_option Elab.async false
set_option linter.all false
set_option maxRecDepth 100000
set_option maxHeartbeats 2000000
namespace L2
open PySem PySem.Spec PyProof.Rows
/-! ### a list is parted over names -/
section
variable {prog : Program} {w : World} {A : Around} {E : Value → Shared → Prop} {s : Shared}
end
/-- (a, b, ..) = a list of that length -/
def gLst (K : PySem.W.Frag) (n : Nat) (t : TGs) : TG := fun v σ H Q => ∃ a xs, v = .ref a ∧ SqL K H a xs ∧ xs.length = n ∧ t xs σ H Q
end L2

set_option Elab.async false
set_option linter.all false
set_option maxRecDepth 100000
set_option maxHeartbeats 2000000
namespace L2
open PySem PySem.Spec PyProof.Rows
/-! ### a dict of the module, its keys ints and texts: it is read -/
def KD (P : Program) (w : World) (K : PySem.W.Frag) (a : Addr) (kvs : List (Key × V)) : Prop :=
  ∃ o es ep vs, K.lookup a = some o ∧ o.ExactDict ∧ o.data = .dict es ep ∧ KeysOf (mixKind P w) es ∧ Pairs (mixKind P w) es.toList vs ∧ (vs.map (·.1)).Nodup ∧ KV kvs vs
def tDGetK (kvs : List (Key × V)) (ty : TE) : TE := fun σ H Q => ty σ H fun y H2 => ∃ k v, y = kV k ∧ valV kvs k = some v ∧ Q v H2
end L2

set_option Elab.async false
set_option linter.all false
set_option maxRecDepth 100000
set_option maxHeartbeats 2000000
namespace L2
open PySem PySem.Spec PyProof.Rows
/-! ### walking a text -/
def Its (z : Str) : It :=
  ⟨fun i _ => i < z.cps.size, fun i H x H' => H' = H ∧ ∃ c, z.cps[i]? = some c ∧ x = .str ⟨#[c]⟩, fun i _ => z.cps.size ≤ i⟩
def iStr (tl : TE) : TI := fun σ H R => tl σ H fun x H1 => ∃ z, x = .str z ∧ z.cps.all (· < 128) = true ∧ R (Its z) H1
/-! ### a statement, with a word of what holds behind it -/
def tCut (t u : TS) : TS := fun D σ H => ∃ J : St → Hp → Prop, t { D with nx := J } σ H ∧ ∀ σ' H', J σ' H' → u D σ' H'
/-! ### is not, of truths -/
end L2

set_option Elab.async false
set_option linter.all false
set_option maxRecDepth 100000
set_option maxHeartbeats 2000000
namespace PySem
open Sem (wp)
namespace F
end F
section
variable {prog : Program} {w : World} {A : Around} {E : Value → Shared → Prop} {h : Heap} {g : Array GenState} {d : Drawn} {t : Nat} {os : OsState} {a : Addr} {vs : Array Value}
end
end PySem

namespace L2
open PySem PySem.Spec PyProof.Rows
/-! ### dict(enumerate(..)) -/
section
variable {prog : Program} {w : World} {A : Around} {E : Value → Shared → Prop} {s : Shared}
def EnO (h : Heap) (e it : Addr) (i : Int) (T : Addr) (f : Bool) (item : Value) : Prop :=
  h.get? e = some { cls := .type "enumerate", dict := none, data := .fields #[rawInt T, .bool f, .ref it, rawInt i, .none, item], slots := #[] }
/-- the enumerate object behind i steps -/
def EnSt (h : Heap) (e it d : Addr) (i : Nat) : Prop :=
  (∃ old, IsEnum h e it i old) ∨ ∃ T f item o, EnO h e it i T f item ∧ h.get? T = some o ∧ T ≠ e ∧ T ≠ it ∧ T ≠ d
def enPairs (items : List Value) : Nat → List (Key × Value)
  | 0 => []
  | n + 1 => enPairs items n ++ [(.inl (n : Int), items.getD n .none)]
end
def enKV (xs : List V) : Nat → List (Key × V)
  | 0 => []
  | n + 1 => enKV xs n ++ [(.inl (n : Int), xs.getD n .non)]
def tDictEnum (K : PySem.W.Frag) (ta : TA) : TE := fun σ H Q => ta σ H fun vs H1 => ∃ l xs, vs = [.ref l] ∧ SqL K H1 l xs ∧ xs.length ≤ 1000 ∧ ∀ d, H1 d = none → Q (.ref d) (upd H1 d (.dK (enKV xs xs.length)))
end L2

set_option Elab.async false
set_option linter.all false
set_option maxRecDepth 100000
set_option maxHeartbeats 2000000
namespace L2
open PySem PySem.Spec PyProof.Rows
/-! ### all of a list of truths; list of a text -/
end L2

set_option Elab.async false
set_option linter.all false
set_option maxRecDepth 100000
set_option maxHeartbeats 2000000
namespace L2
open PySem PySem.Spec PyProof.Rows
/-! ### a statement while the dict is known to its object -/
def sFrz (t : TS) : TS := fun D σ H => ∃ d kvs, H d = some (.dT kvs) ∧ ∀ o, t { nx := fun σ' H' => H' d = some (.frz o (.dT kvs)) ∧ D.nx σ' (upd H' d (.dT kvs)), rt := fun v H' => H' d = some (.frz o (.dT kvs)) ∧ D.rt v (upd H' d (.dT kvs)), bk := fun σ' H' => H' d = some (.frz o (.dT kvs)) ∧ D.bk σ' (upd H' d (.dT kvs)), ct := fun σ' H' => H' d = some (.frz o (.dT kvs)) ∧ D.ct σ' (upd H' d (.dT kvs)) } σ (upd H d (.frz o (.dT kvs)))
/-! ### sorted of a dict whose keys are pairs -/
end L2

set_option Elab.async false
set_option linter.all false
set_option maxRecDepth 100000
set_option maxHeartbeats 4000000
namespace L2
open PySem PySem.Spec PyProof.Rows
/-! ### a comprehension with two clauses -/
/-- the reading of the inner clause: W by the turn, a measure, the items so far, the names -/
abbrev LcMid (g2 : TG) (tt2 : TT) (te : TE) (ys : List V) (σ2 : St) (Fin : List V → Hp → Prop) (J2 : It) (H4 : Hp) : Prop := ∃ W2 : Nat → Nat → List V → St → Hp → Prop, (∃ m, W2 0 m ys σ2 H4) ∧ ∀ i m ys σ H, W2 i m ys σ H →
  (J2.stop i H ∧ Fin ys H) ∨
  (J2.go i H ∧ ys.length < sizeLine ∧ ∀ x H', J2.yld i H x H' → g2 x σ H' fun σ3 H5 => tt2 σ3 H5 fun b H6 => if b = true then te σ3 H6 fun v H7 => ∃ m', m' < m ∧ W2 (i + 1) m' (ys ++ [v]) σ3 H7 else ∃ m', m' < m ∧ W2 (i + 1) m' ys σ3 H6)
abbrev LcIn2 (cap : List (Option Nat)) (g : TG) (tt : TT) (wi2 : TI) (g2 : TG) (tt2 : TT) (te : TE) (σ : St) (Q : VK) (J : It) (H1 : Hp) : Prop := ∃ W : Nat → Nat → List V → Hp → Prop, (∃ m, W 0 m [] H1) ∧ ∀ i m ys H, W i m ys H →
  (J.stop i H ∧ ∀ p, H p = none → Q (.ref p) (upd H p (.lst ys))) ∨
  (J.go i H ∧ ∀ x H', J.yld i H x H' → g x (capSt cap σ) H' fun σ2 H2 => tt σ2 H2 fun b H3 => if b = true then wi2 σ2 H3 (LcMid g2 tt2 te ys σ2 fun ys' H4 => ∃ m', m' < m ∧ W (i + 1) m' ys' H4) else ∃ m', m' < m ∧ W (i + 1) m' ys H3)
def tLc2 (cap : List (Option Nat)) (wi : TI) (g : TG) (tt : TT) (wi2 : TI) (g2 : TG) (tt2 : TT) (te : TE) : TE := fun σ H Q => wi σ H (LcIn2 cap g tt wi2 g2 tt2 te σ Q)
section
variable {X : Cx}
end
end L2

set_option Elab.async false
set_option linter.all false
set_option maxRecDepth 100000
set_option maxHeartbeats 2000000
namespace L2
open PySem PySem.Spec PyProof.Rows
/-! ### exceptions that pass: the heap without some objects -/
def lack (h : Heap) (S : List Addr) : Heap := ⟨h.objs.mapIdx fun i o => if i ∈ S then { o with data := .freed } else o, h.life⟩
theorem lack_in {h : Heap} {S : List Addr} {b : Addr} (hb : b ∈ S) : (lack h S).get? b = none := by
  unfold lack Heap.get?
  simp only [Array.getElem?_mapIdx]
  cases e : h.objs[b]? with
  | none => rfl
  | some o => simp [hb]
theorem lack_out {h : Heap} {S : List Addr} {b : Addr} (hb : b ∉ S) : (lack h S).get? b = h.get? b := by
  unfold lack Heap.get?
  simp only [Array.getElem?_mapIdx]
  cases e : h.objs[b]? with
  | none => rfl
  | some o => simp [hb]
theorem lack_stays (h : Heap) (S : List Addr) : (lack h S).StaysIn h := fun b o e => by
  by_cases hb : b ∈ S
  · rw [lack_in hb] at e; cases e
  · rw [lack_out hb] at e; exact e
theorem frames_lack {h h1 base : Heap} {S : List Addr} : ∀ {l : List Env}, (∀ b ∈ l.filterMap (·.frame), b ∈ S) → h1.FunFrames base l → h1.FunFrames (lack h S) l
  | [], _, _ => trivial
  | env :: rest, hs, ⟨hk, ⟨L, o, hf, hn, ho, hd⟩, hr⟩ => by
    refine ⟨hk, ⟨L, o, hf, lack_in (hs L ?_), ho, hd⟩, frames_lack (fun b hb => hs b ?_) hr⟩
    · rw [List.filterMap_cons, hf]; exact List.mem_cons_self
    · rw [List.filterMap_cons, hf]; exact List.mem_cons_of_mem _ hb
/-- an exception on its way: e of the class cls, its traceback at T -/
def Trc (h : Heap) (e T : Addr) (cls : Value) : Prop := ∃ oe vs oT ts a0, h.get? e = some oe ∧ (oe.cls = cls ∧ vs[0]? = some a0) ∧ oe.data = .fields vs ∧ vs[1]? = some (.ref T) ∧ T ≠ e ∧ h.get? T = some oT ∧ oT.data = .fields ts ∧ ts[3]? = some .none
section
variable {M : Model} {A : Around} {E : Value → Shared → Prop} {s : Shared}
/-- what stays when an exception leaves a frame -/
structure Lft (l : List Env) (e : Addr) (x : List Addr) (h h' : Heap) : Prop where
  keep : ∀ b o, b ∉ l.filterMap (·.frame) → b ≠ e → b ∉ x → h.get? b = some o → h'.get? b = some o
  slot : ∀ b o, b ∈ l.filterMap (·.frame) → h.get? b = some o → ∃ sl, h'.get? b = some { o with slots := sl }
theorem lft_of {base b0 : Heap} {l : List Env} {e : Addr} {x : List Addr} {cls : Value} {h h' : Heap} (hl : h.FunFrames b0 l) {a0 : Value} (L : Heap.LeftW (lack h (e :: x ++ l.filterMap (·.frame))) l e cls a0 h h') (he : h.get? e ≠ none) :
    Lft l e x h h' ∧ ∃ T, Trc h' e T cls ∧ (T ∈ x ∨ h.get? T = none) := by
  obtain ⟨k1, k2, k3, k4⟩ := L
  refine ⟨⟨fun b o hb hbe hx ho => k1 b o (by rw [lack_out]; exact ho; simp [hb, hbe, hx]), fun b o hb ho => ?_⟩, ?_⟩
  · obtain ⟨_, o', ho', hd⟩ := hl.mem hb
    rw [ho] at ho'; cases ho'
    exact k4 b o ho hd
  · obtain ⟨oe, vs, T, oT, ts, h1, h2, h3, h4, h5, h6, h7, h8, h9⟩ := k3
    refine ⟨T, ⟨oe, vs, oT, ts, a0, h1, h2, h3, h4, h6, h7, h8, h9⟩, ?_⟩
    by_cases hT : T ∈ x
    · exact .inl hT
    · refine .inr ?_
      have nf : T ∉ l.filterMap (·.frame) := fun z => by
        obtain ⟨_, o, ho, hd⟩ := k2.mem z
        rw [h7] at ho; cases ho
        exact hd ts h8
      rw [lack_out (by simp [hT, h6, nf])] at h5
      exact h5
theorem leave_first {b0 : Heap} {env : Env} {outer : List Env} {L e : Addr} {oe : Obj} {vs : Array Value} {Q : Unit → Shared → Prop} (hfr : A.frames = some (env :: outer)) (hl : s.heap.FunFrames b0 (env :: outer)) (hf : env.frame = some L)
    (he : s.heap.get? e = some oe) (hd : oe.data = .fields vs) (h1 : vs[1]? = some .none) {a0 : Value} (h0 : vs[0]? = some a0)
    (h : ∀ h' T, Lft (env :: outer) e [] s.heap h' → Trc h' e T oe.cls → s.heap.get? T = none → Q () { s with heap := h' }) : wpAny M A (leaving env (.ref e)) Q E s := by
  refine wpAny_leaving_firstW (a0 := a0) (base := lack s.heap (e :: [] ++ (env :: outer).filterMap (·.frame))) hfr (frames_lack (fun b hb => List.mem_append_right _ hb) hl) hf he (lack_stays _ _) (lack_in (by simp)) hd h1 h0 fun h' L' => ?_
  obtain ⟨l', T, t, z⟩ := lft_of (base := b0) hl L' (by rw [he]; simp)
  rcases z with z | z
  · exact absurd z (by simp)
  · exact h h' T l' t z
theorem leave_next {b0 : Heap} {env : Env} {outer : List Env} {L e T : Addr} {cls : Value} {Q : Unit → Shared → Prop} (hfr : A.frames = some (env :: outer)) (hl : s.heap.FunFrames b0 (env :: outer)) (hf : env.frame = some L)
    (ht : Trc s.heap e T cls)
    (h : ∀ h' T', Lft (env :: outer) e [T] s.heap h' → Trc h' e T' cls → (T' = T ∨ s.heap.get? T' = none) → Q () { s with heap := h' }) : wpAny M A (leaving env (.ref e)) Q E s := by
  obtain ⟨oe, vs, oT, ts, a0, h1, h2, h3, h4, h6, h7, h8, h9⟩ := ht
  refine wpAny_leaving_nextW (a0 := a0) (base := lack s.heap (e :: [T] ++ (env :: outer).filterMap (·.frame))) (cls := cls) hfr (frames_lack (fun b hb => List.mem_append_right _ hb) hl) hf ⟨oe, vs, T, oT, ts, h1, h2, h3, h4, lack_in (by simp), h6, h7, h8, h9⟩ (lack_stays _ _) (lack_in (by simp)) fun h' L' => ?_
  obtain ⟨l', T', t, z⟩ := lft_of (base := b0) hl L' (by rw [h1]; simp)
  refine h h' T' l' t ?_
  rcases z with z | z
  · exact .inl (by simpa using z)
  · exact .inr z
end
/-! ### how an exception lies behind a call -/
def CX1 (P : Program) (w : World) : CXT := fun outer H s E e s' => ∃ (ea T C : Addr) (H' : Hp), e = .ref ea ∧ s'.os = s.os ∧ AllBare s'.gens ∧ Un (frs outer) [] H H' s.heap s'.heap ∧ HOk P w H' s'.heap ∧ s.heap.get? ea = none ∧ s.heap.get? T = none ∧ H' ea = none ∧ H' T = none ∧ Trc s'.heap ea T (.ref C) ∧ E (.ref C) none H'
theorem frames_un {h h' base : Heap} : ∀ {l : List Env}, (∀ b ∈ frs l, ∀ o, h.get? b = some o → ∃ sl, h'.get? b = some { o with slots := sl }) → h.FunFrames base l → h'.FunFrames base l
  | [], _, _ => trivial
  | env :: rest, k, ⟨hk, ⟨L, o, hf, hn, ho, hd⟩, hr⟩ => by
    have m : ∀ b, b = L ∨ b ∈ frs rest → b ∈ frs (env :: rest) := fun b hb => by
      show b ∈ (env :: rest).filterMap (·.frame)
      rw [List.filterMap_cons, hf]
      rcases hb with rfl | hb
      · exact List.mem_cons_self
      · exact List.mem_cons_of_mem _ hb
    obtain ⟨sl, e⟩ := k L (m L (.inl rfl)) o ho
    exact ⟨hk, ⟨L, _, hf, hn, e, hd⟩, frames_un (fun b hb => k b (m b (.inr hb))) hr⟩
theorem frs_cons {env : Env} {outer : List Env} {L : Addr} (hf : env.frame = some L) : frs (env :: outer) = L :: frs outer := by
  show (env :: outer).filterMap (·.frame) = _
  rw [List.filterMap_cons, hf]; rfl
theorem un_left {env : Env} {outer : List Env} {L e : Addr} {x : List Addr} {H0 H' : Hp} {h0 h1 h2 : Heap} (hf : env.frame = some L) (u : Un (frs (env :: outer)) [] H0 H' h0 h1) (l : Lft (env :: outer) e x h1 h2) (hL : h0.get? L = none) (he : h0.get? e = none) (hx : ∀ b ∈ x, h0.get? b = none) :
    Un (frs outer) [] H0 H' h0 h2 := by
  have ne : ∀ b o, h0.get? b = some o → b ≠ L ∧ b ≠ e ∧ b ∉ x := fun b o q => ⟨(fun z => by rw [z, hL] at q; cases q), (fun z => by rw [z, he] at q; cases q), (fun z => by rw [hx b z] at q; cases q)⟩
  have fr : ∀ b, b ∈ frs (env :: outer) ↔ b = L ∨ b ∈ frs outer := fun b => by rw [frs_cons hf, List.mem_cons]
  have fwd : ∀ b o, h0.get? b = some o → ∀ o', h1.get? b = some o' → ∃ sl, h2.get? b = some { o' with slots := sl } := fun b o q o' q' => by
    by_cases hb : b ∈ frs (env :: outer)
    · exact l.slot b o' hb q'
    · exact ⟨o'.slots, l.keep b o' hb (ne b o q).2.1 (ne b o q).2.2 q'⟩
  refine ⟨fun b o q n hb _ => ?_, fun b o q n hb _ => ?_, fun b o q n h => u.free b o q n h, fun b o q h => ?_, u.tups, u.frzs, u.tbls⟩
  · have nb : b ∉ frs (env :: outer) := fun z => ((fr b).mp z).elim (ne b o q).1 hb
    exact l.keep b o nb (ne b o q).2.1 (ne b o q).2.2 (u.keep b o q n nb (by simp))
  · obtain ⟨sl, e1⟩ := u.slot b o q n ((fr b).mpr (.inr hb)) (by simp)
    obtain ⟨sl', e2⟩ := fwd b o q _ e1
    exact ⟨sl', e2⟩
  · obtain ⟨o', e1⟩ := u.there b o q h
    obtain ⟨sl, e2⟩ := fwd b o q o' e1
    exact ⟨_, e2⟩
theorem hok_left {P : Program} {w : World} {l : List Env} {e : Addr} {x : List Addr} {H : Hp} {h1 h2 : Heap} (ok : HOk P w H h1) (f : Lft l e x h1 h2) (hl : ∀ b ∈ frs l, H b = none) (he : H e = none) (hx : ∀ b ∈ x, H b = none) : HOk P w H h2 := fun b u q =>
  (ok b u q).stay (fun c v hc r => by
    have hn : H c ≠ none := by rcases hc with rfl | hc; rw [q]; simp; rw [hc]; simp
    exact f.keep c v (fun z => hn (hl c z)) (fun z => hn (by rw [z]; exact he)) (fun z => hn (hx c z)) r) (fun _ r => r) fun _ _ r => r
section
variable {P : Program} {w : World} {K : PySem.W.Frag} {mg : Str → Option Value} {base : Heap} {N : List Str} {qual : Str} {scope : Scope} {f : Addr} {cd : Value} {A : Around} {outer : List Env} {s0 : Shared} {H0 : Hp} {E : XK}
/-- an exception made here leaves -/
theorem raise1 {pins : List (Addr × Obj)} {σ : St} {H : Hp} {s : Shared} {h' : Heap} {e C : Addr} {args : List Value} (I : Inv (cxOf (CX1 P w) P w K mg base N qual scope f cd A outer s0 H0 E) pins σ H s) (mk : Heap.MadeExcOf s.heap h' e (.ref C) args) (q : E (.ref C) none H) :
    (cxOf (CX1 P w) P w K mg base N qual scope f cd A outer s0 H0 E).xe (.ref e) { s with heap := h' } := by
  have hf : (envOfC qual scope s0.heap.objs.size f cd).frame = some s0.heap.objs.size := rfl
  obtain ⟨t, he, ht, _⟩ := mk.there
  have fr : h'.FunFrames base (envOfC qual scope s0.heap.objs.size f cd :: outer) := frames_un (fun b _ o ho => ⟨o.slots, mk.keeps b o ho⟩) I.stack
  have un1 : Un (frs (envOfC qual scope s0.heap.objs.size f cd :: outer)) [] H0 H s0.heap h' := (Un.mono I.base (fun b hb => by rw [frs_cons hf]; exact List.mem_cons_of_mem _ hb) (fun b hb => hb)).trans (Un.kept mk.keeps)
  have none_of : ∀ b, s.heap.get? b = none → s0.heap.get? b = none ∧ H b = none := fun b hb => by
    constructor
    · cases z : s0.heap.get? b with
      | none => rfl
      | some o =>
        obtain ⟨o', z'⟩ := I.base.there b o z (fun z => nomatch z)
        rw [hb] at z'; cases z'
    · cases z : H b with
      | none => rfl
      | some o =>
        obtain ⟨u, hu⟩ := (I.hok b o z).get
        rw [hb] at hu; cases hu
  refine leave_first (b0 := base) (s := { s with heap := h' }) (oe := { cls := .ref C, data := .fields #[.ref t, .none, .none, .none, .bool false, .none] }) I.ok.frames fr hf he rfl rfl (a0 := .ref t) rfl fun h2 T lf tr hT => ?_
  have hT' : s.heap.get? T = none := by
    cases z : s.heap.get? T with
    | none => rfl
    | some o =>
      have := mk.keeps T o z
      have hT : h'.get? T = none := hT
      rw [hT] at this; cases this
  have hL : s0.heap.get? s0.heap.objs.size = none := by
    cases z : s0.heap.get? s0.heap.objs.size with
    | none => rfl
    | some o => exact absurd (Heap.lt_size z) (Nat.lt_irrefl _)
  exact ⟨e, T, C, H, rfl, I.os, I.bare, un_left hf un1 lf hL (none_of e mk.new).1 (fun b hb => nomatch hb), hok_left (I.hok.kept mk.keeps) lf I.stkFree (none_of e mk.new).2 (fun b hb => nomatch hb), (none_of e mk.new).1, (none_of T hT').1, (none_of e mk.new).2, (none_of T hT').2, tr, q⟩
/-- an exception of a callee passes -/
theorem pass1 : Passes (CX1 P w) (cxOf (CX1 P w) P w K mg base N qual scope f cd A outer s0 H0 E) E := by
  rintro pins σ H s e s' I ⟨ea, T, C, H', rfl, os, bare, un, hok, n1, n2, m1, m2, tr, q⟩
  have hf : (envOfC qual scope s0.heap.objs.size f cd).frame = some s0.heap.objs.size := rfl
  have un : Un (frs (envOfC qual scope s0.heap.objs.size f cd :: outer)) [] H H' s.heap s'.heap := un
  have fr : s'.heap.FunFrames base (envOfC qual scope s0.heap.objs.size f cd :: outer) := frames_un (fun b hb o ho => un.any ho (I.stkFree b hb) (fun z => nomatch z)) I.stack
  have un1 : Un (frs (envOfC qual scope s0.heap.objs.size f cd :: outer)) [] H0 H' s0.heap s'.heap := (Un.mono I.base (fun b hb => by rw [frs_cons hf]; exact List.mem_cons_of_mem _ hb) (fun b hb => hb)).trans un
  have none_of : ∀ b, s.heap.get? b = none → s0.heap.get? b = none := fun b hb => by
    cases z : s0.heap.get? b with
    | none => rfl
    | some o =>
      obtain ⟨o', z'⟩ := I.base.there b o z (fun z => nomatch z)
      rw [hb] at z'; cases z'
  have hL : s0.heap.get? s0.heap.objs.size = none := by
    cases z : s0.heap.get? s0.heap.objs.size with
    | none => rfl
    | some o => exact absurd (Heap.lt_size z) (Nat.lt_irrefl _)
  have frN : ∀ b ∈ frs (envOfC qual scope s0.heap.objs.size f cd :: outer), H' b = none := fun b hb => by
    obtain ⟨_, o, ho, _⟩ := (show s.heap.FunFrames base (envOfC qual scope s0.heap.objs.size f cd :: outer) from I.stack).mem hb
    exact un.free b o ho (I.stkFree b hb) (fun z => nomatch z)
  refine leave_next (b0 := base) I.ok.frames fr hf tr fun h2 T' lf tr' hT => ?_
  have x1 : ∀ b ∈ [T], s0.heap.get? b = none := fun b hb => by rw [List.mem_singleton.mp hb]; exact none_of T n2
  have x2 : ∀ b ∈ [T], H' b = none := fun b hb => by rw [List.mem_singleton.mp hb]; exact m2
  refine ⟨ea, T', C, H', rfl, os.trans I.os, bare, un_left hf un1 lf hL (none_of ea n1) x1, hok_left hok lf frN m1 x2, none_of ea n1, ?_, m1, ?_, tr', q⟩
  · rcases hT with rfl | hT
    · exact none_of _ n2
    · cases z : s0.heap.get? T' with
      | none => rfl
      | some o =>
        obtain ⟨o', z'⟩ := un1.there T' o z (fun z => nomatch z)
        rw [hT] at z'; cases z'
  · rcases hT with rfl | hT
    · exact m2
    · cases z : H' T' with
      | none => rfl
      | some o =>
        obtain ⟨u, hu⟩ := (hok T' o z).get
        rw [hT] at hu; cases hu
end
/-! ### raise -/
/-- a class of the text that is an exception -/
structure EC (K : PySem.W.Frag) (C : Addr) : Prop where
  ex : ∃ nm q N bs bm hdct sn sub ab col dd k0 k1 k2 k3 k5 B newId initId bmB mN, ExcBaseFacts B newId initId bmB ∧ bm.contains (.type "BaseException") = true ∧ mN ("__init__" : Str) = none ∧
    ∀ h, K.In h → h.get? C = some (excClassObj nm q C N bs bm hdct sn sub ab col dd k0 k1 k2 k3 k5 newId) ∧ h.Ns N mN ∧ OwnTail h bmB bm
/-- what a raise here comes to -/
def Rz (X : Cx) (E : XK) : Prop := ∀ (pins : List (Addr × Obj)) (σ : St) (H : Hp) (s : Shared) (h' : Heap) (e C : Addr) (args : List Value), Inv X pins σ H s → Heap.MadeExcOf s.heap h' e (.ref C) args → E (.ref C) none H → X.xe (.ref e) { s with heap := h' }
theorem rz1 {P : Program} {w : World} {K : PySem.W.Frag} {mg : Str → Option Value} {base : Heap} {N : List Str} {qual : Str} {scope : Scope} {f : Addr} {cd : Value} {A : Around} {outer : List Env} {s0 : Shared} {H0 : Hp} {E : XK} :
    Rz (cxOf (CX1 P w) P w K mg base N qual scope f cd A outer s0 H0 E) E := fun _ _ _ _ _ _ _ _ I mk q => raise1 I mk q
theorem ps_raise {X : Cx} {E : XK} {C : Addr} {x t : Str} {np p cpos pos : Pos} {j : Nat} (hz : Rz X E) (ec : EC X.K C) (hc : X.calm = true) (hg : Gl X x) (hm : X.mg x = some (.ref C))
    (hs : backTo cpos (starEach [.Constant (.str t) j p] X.env) = [(false, eval (.Constant (.str t) j p) X.env)] := by rfl) (hdb : (x == ("__debug__" : Str)) = false := by decide) :
    PS X (.Raise (some (.Call (.Name x np) [.Constant (.str t) j p] [] cpos)) none pos) (fun _ _ H => E (.ref C) none H) := by
  intro pins s σ H D I h
  obtain ⟨nm, q, N, bs, bm, hdct, sn, sub, ab, col, dd, k0, k1, k2, k3, k5, B, newId, initId, bmB, mN, F, hb, hni, hK⟩ := ec.ex
  refine wpAny_Raise_call_subT (nm := nm) (q := q) (N := N) (bs := bs) (hdct := hdct) (sn := sn) (sub := sub) (ab := ab) (col := col) (dd := dd) (k0 := k0) (k1 := k1) (k2 := k2) (k3 := k3) (k5 := k5) F hb (I.ok.hd hc) (by rw [hs]; rfl) hni (ld_glob I hg hm ⟨rfl, ?_⟩ hdb)
  rw [hs]
  refine Calls.evalArgs_plain (Calls.spliced_cons (Calls.Constant_str (Calls.spliced_nil ?_)))
  have I1 : Inv X pins σ H { s with toks := s.toks + 1 } := I.tok _
  obtain ⟨h1, h2, h3⟩ := hK _ I1.kIn
  exact ⟨rfl, (by show 1 ≤ sizeLine; decide), h1, h2, h3, fun h' e mk => hz pins σ H _ h' e C _ I1 mk h⟩
/-! ### defs that raise -/
theorem Fun.ok1 {P : Program} {w : World} {K : PySem.W.Frag} {mg : Str → Option Value} {base : Heap} {x qual : Str} {st : Stmt} {f : Addr} {fd : FuncData} {N ps : List Str} {k : Nat} {sp : Sp} (F : Fun K x qual st f fd) (S : FnScope N ps (defScope st)) (len : ∀ vs H Q E, sp vs H Q E → vs.length = ps.length)
    (hbody : ∀ (cdv : Value) (A : Around) (outer : List Env) (s : Shared) (H : Hp) (vs : List V) (Q : VK) (E : XK), Room k (A.deeper (envOfC qual (defScope st) s.heap.objs.size f cdv)) → sp vs H Q E →
      ∃ t, PSs (cxOf (CX1 P w) P w K mg base N qual (defScope st) f cdv A outer s H E) (defBody st) t ∧ t { nx := fun _ H' => Q .non H', rt := Q } (start N vs) H) : FnOk P w K mg base (CX1 P w) (k + 1) f fd ps sp := by
  obtain ⟨oc, od, kV, doc, pm, an, cdv, ct, osl, rfl, lk, hcd⟩ := F.ex
  exact fn_of lk hcd S len fun A outer s H vs Q E hr hsp => hbody cdv A outer s H vs Q E hr hsp
/-- a def of the text that may raise, as a call sees it -/
def Cal1 (P : Program) (w : World) (K : PySem.W.Frag) (mg : Str → Option Value) (base : Heap) (x : Str) (k : Nat) (ps : List Str) (sp : Sp) : Prop :=
  ∃ f fd, FnOk P w K mg base (CX1 P w) k f fd ps sp ∧ Binds K fd ps [] ∧ PySem.W.keepIn K (.ref f) = true ∧ mg x = some (.ref f)
/-- what comes of a callee's exception here -/
theorem pe_cal1 {X : Cx} {E : XK} {x : Str} {k k' : Nat} {ps : List Str} {sp : Sp} {e : Expr} {es : List Expr} {t : TA} {p pos : Pos} (C : Cal1 X.prog X.w X.K X.mg X.base x k ps sp) (hx : Passes (CX1 X.prog X.w) X E) (hr : Room k' X.A) (hk : k ≤ k') (hg : Gl X x) (ha : PA X (e :: es) t)
    (hdb : (x == ("__debug__" : Str)) = false := by decide) (he : starEach (e :: es) X.env = (false, eval e X.env) :: starEach es X.env := by rfl) (hpl : (backTo pos (starEach es X.env)).any (·.1) = false := by rfl) :
    PE X (.Call (.Name x p) (e :: es) [] pos) (tCall sp [] E t) := by
  obtain ⟨f, fd, F, b, kp, m⟩ := C
  exact pe_call F (hr.mono hk) hg m kp b .nil hx ha hdb he hpl
/-! ### try: the body's context -/
def Fresh (X : Cx) (pins : List (Addr × Obj)) (a : Addr) : Prop := X.s₀.heap.get? a = none ∧ a ≠ X.env.locals ∧ (∀ x c, X.env.cells.lookup x = some c → c ≠ a) ∧ ∀ p ∈ X.pn ++ pins, p.1 ≠ a
/-- pn: what is pinned at the try; an exception comes with what is held then, and with what is wanted of it by the names, the class, the heap -/
def xTry (X : Cx) (pins0 : List (Addr × Obj)) (Cat : St → Addr → Hp → Prop) : Cx :=
  { X with pn := X.pn ++ pins0, xe := fun e s' => ∃ ea T C H' σ, e = Value.ref ea ∧ Inv X pins0 σ H' s' ∧ Trc s'.heap ea T (.ref C) ∧ H' ea = none ∧ H' T = none ∧ Fresh X pins0 ea ∧ Fresh X pins0 T ∧ Cat σ C H' }
section
variable {X : Cx} {pins0 pins : List (Addr × Obj)} {Cat : St → Addr → Hp → Prop} {σ : St} {H : Hp} {s : Shared}
theorem inv_try (I : Inv X pins0 σ H s) : Inv (xTry X pins0 Cat) [] σ H s :=
  ⟨⟨I.ok.mod, I.ok.kind, I.ok.glob, I.ok.blt, I.ok.above, I.ok.inj, I.ok.has, I.ok.cab, I.ok.hd, I.ok.frames, I.ok.stk, I.ok.exf, I.ok.bs, I.ok.bsz, I.ok.noex, I.ok.exfs, I.ok.funs, I.ok.frf⟩, I.os, I.bare, I.base, I.loc, I.cell, I.free, I.freeC, fun p hp => I.pin p (by
    have hp : p ∈ (X.pn ++ pins0) ++ [] := hp
    rwa [List.append_nil] at hp), I.hok, I.len⟩
theorem inv_untry (I : Inv (xTry X pins0 Cat) pins σ H s) : Inv X pins0 σ H s :=
  ⟨⟨I.ok.mod, I.ok.kind, I.ok.glob, I.ok.blt, I.ok.above, I.ok.inj, I.ok.has, I.ok.cab, I.ok.hd, I.ok.frames, I.ok.stk, I.ok.exf, I.ok.bs, I.ok.bsz, I.ok.noex, I.ok.exfs, I.ok.funs, I.ok.frf⟩, I.os, I.bare, I.base, I.loc, I.cell, I.free, I.freeC, fun p hp => I.pin p (show p ∈ (X.pn ++ pins0) ++ pins from List.mem_append_left _ hp), I.hok, I.len⟩
theorem Inv.fresh_of (I : Inv X pins σ H s) {a : Addr} (hx : X.ex = []) (h : s.heap.get? a = none) : Fresh X pins a := by
  refine ⟨?_, fun z => ?_, fun x c e z => ?_, fun p hp z => ?_⟩
  · cases q : X.s₀.heap.get? a with
    | none => rfl
    | some o =>
      obtain ⟨o', q'⟩ := I.base.there a o q (by rw [hx]; exact fun z => nomatch z)
      rw [h] at q'; cases q'
  · obtain ⟨m, ⟨o, _, _, ho, _⟩, _⟩ := I.loc
    rw [← z, h] at ho; cases ho
  · obtain ⟨v, o, ho, _⟩ := I.cell x c e
    rw [z, h] at ho; cases ho
  · have := (I.pin p hp).1
    rw [z, h] at this; cases this
/-- a call within a try -/
def tCallT (sp : Sp) (Cat : St → Addr → Hp → Prop) (t : TA) : TE := fun σ H Q => t σ H fun vs H1 => sp vs H1 Q fun v _ H' => ∀ C, v = Value.ref C → Cat σ C H'
theorem pe_calT {x : Str} {k k' : Nat} {ps : List Str} {sp : Sp} {e : Expr} {es : List Expr} {t : TA} {p pos : Pos} (C : Cal1 X.prog X.w X.K X.mg X.base x k ps sp) (hx : X.ex = []) (hr : Room k' X.A) (hk : k ≤ k') (hg : Gl X x) (ha : PA (xTry X pins0 Cat) (e :: es) t)
    (hdb : (x == ("__debug__" : Str)) = false := by decide) (he : starEach (e :: es) X.env = (false, eval e X.env) :: starEach es X.env := by rfl) (hpl : (backTo pos (starEach es X.env)).any (·.1) = false := by rfl) :
    PE (xTry X pins0 Cat) (.Call (.Name x p) (e :: es) [] pos) (tCallT sp Cat t) := by
  obtain ⟨f, fd, F, b, kp, m⟩ := C
  intro pins s σ H Q I h
  refine wpAny_Call_Name_kw (ld_glob I hg m ?_ hdb)
  refine PySem.W.callWith_K (h₀ := X.base) I.ok.mod.kin kp (thn (ha pos pins s σ H _ I h) fun us s1 ⟨vs, H1, I1, r, q⟩ => ⟨I1.kIn, ?_⟩) he hpl
  have r2 : Vals vs (us ++ []) := by rw [List.append_nil]; exact r
  have hl : (us ++ []).length = ps.length := by rw [← r2.length]; exact F.len _ _ _ _ q
  refine wpAny_call (codeAny_mono (F.run X.A X.stack s1 H1 ⟨us, []⟩ (us ++ []) vs Q _ (hr.mono hk) I1.env0 (b s1 us I1.kIn hl) r2 q) fun r s' hq => ?_)
  cases r with
  | ok fl =>
    cases fl with
    | ret u => exact I1.after hq
    | next => exact False.elim hq
    | brk => exact False.elim hq
    | cont => exact False.elim hq
  | error e =>
    obtain ⟨ea, T, C, H', rfl, os, bare, un, hok, n1, n2, m1, m2, tr, q⟩ := hq
    have J := inv_untry I1
    exact ⟨ea, T, C, H', σ, rfl, J.call' os un hok bare (fun b z => nomatch z), tr, m1, m2, J.fresh_of hx n1, J.fresh_of hx n2, q C rfl⟩
end
/-! ### try: an exception is caught -/
section
variable {M : Model} {A : Around} {E : Value → Shared → Prop} {s : Shared}
theorem note_step {b0 : Heap} {env : Env} {outer : List Env} {L e T : Addr} {cls : Value} {Q : Unit → Shared → Prop} (hfr : A.frames = some (env :: outer)) (hl : s.heap.FunFrames b0 (env :: outer)) (hf : env.frame = some L) (ht : Trc s.heap e T cls)
    (h : ∀ h' T', Lft (env :: outer) e [T] s.heap h' → Trc h' e T' cls → (T' = T ∨ s.heap.get? T' = none) → Q () { s with heap := h' }) :
    wpAny M A (noteFrame (.ref e) env) (fun _ s2 => wpAny M A (setFlight (.ref e) none) Q E s2) E s := by
  obtain ⟨oe, vs, oT, ts, a0, h1, h2, h3, h4, h6, h7, h8, h9⟩ := ht
  refine wpAny_noteFrame_onW (a0 := a0) (base := lack s.heap (e :: [T] ++ (env :: outer).filterMap (·.frame))) (cls := cls) hfr (frames_lack (fun b hb => List.mem_append_right _ hb) hl) hf ⟨oe, vs, T, oT, ts, h1, h2, h3, h4, lack_in (by simp), h6, h7, h8, h9⟩ (lack_stays _ _) (lack_in (by simp)) fun h1' N => ?_
  obtain ⟨k1, k2, k3, k4⟩ := N
  refine wpAny_setFlight_noneW (s := { s with heap := h1' }) k1 k2 k3 fun h2' j1 j2 j3 j4 => ?_
  have L' : Heap.LeftW (lack s.heap (e :: [T] ++ (env :: outer).filterMap (·.frame))) (env :: outer) e cls a0 s.heap h2' := ⟨j1, j2, j3, fun b o hb hn => by
    obtain ⟨sl, q⟩ := k4 b o hb hn
    exact ⟨sl, j4 b _ q hn⟩⟩
  obtain ⟨l', T', t, z⟩ := lft_of (base := b0) hl L' (by rw [h1]; simp)
  refine h h2' T' l' t ?_
  rcases z with z | z
  · exact .inl (by simpa using z)
  · exact .inr z
end
/-- an exception that is known to its class -/
def excV (a C : Addr) : HO := .ext fun h => ∃ o vs, h.get? a = some o ∧ o.cls = .ref C ∧ o.data = .fields vs
def recV (a : Addr) : HO := .ext fun h => ∃ o, h.get? a = some o
/-- C is the class P or lies under it -/
structure Und (K : PySem.W.Frag) (C P : Addr) : Prop where
  ex : ∃ nm q N bs bm hdct sn sub ab col dd k0 k1 k2 k3 k5 newId nm' q' N' bs' bm' hdct' sn' sub' ab' col' dd' k0' k1' k2' k3' k5' newId', (Value.ref C :: bm).contains (.ref P) = true ∧ bm'.contains (.type "BaseException") = true ∧
    ∀ h, K.In h → h.get? C = some (excClassObj nm q C N bs bm hdct sn sub ab col dd k0 k1 k2 k3 k5 newId) ∧ h.get? P = some (excClassObj nm' q' P N' bs' bm' hdct' sn' sub' ab' col' dd' k0' k1' k2' k3' k5' newId')
theorem exc_match {M : Model} {A : Around} {E : Value → Shared → Prop} {K : PySem.W.Frag} {C P e : Addr} {oe : Obj} {s : Shared} {Q : Bool → Shared → Prop} (u : Und K C P) (hk : K.In s.heap) (he : s.heap.get? e = some oe) (hcls : oe.cls = .ref C) (hq : Q true s) : wpAny M A (excMatches (.ref e) (.ref P)) Q E s := by
  obtain ⟨nm, q, N, bs, bm, hdct, sn, sub, ab, col, dd, k0, k1, k2, k3, k5, newId, nm', q', N', bs', bm', hdct', sn', sub', ab', col', dd', k0', k1', k2', k3', k5', newId', h1, h2, h3⟩ := u.ex
  obtain ⟨hC, hP⟩ := h3 _ hk
  obtain ⟨h, g, d, t, os⟩ := s
  have hcB : (Value.ref P :: bm').contains (.type "BaseException") = true := by rw [List.contains_cons, h2, Bool.or_true]
  have f := tc_notTuple
  unfold excMatches
  repeat (first | (with_reducible refine wpAny_loadPart_at he ?_; rw [hcls]) | with_reducible refine wpAny_loadPart_at hP ?_ | (with_reducible refine wpAny_isSubtype_exc hP ?_; rw [hcB]) | (with_reducible refine wpAny_isSubtype_exc hC ?_; rw [h1]) | wp_step)
  exact hq
section
variable {X : Cx} {pins : List (Addr × Obj)} {σ : St} {H : Hp} {s : Shared}
/-- the exception is taken into the heap -/
theorem catch_in {ea T C : Addr} (I : Inv X pins σ H s) (tr : Trc s.heap ea T (.ref C)) (m1 : H ea = none) (f1 : Fresh X pins ea) : Inv X pins σ (upd H ea (excV ea C)) s := by
  obtain ⟨oe, vs, oT, ts, a0, h1, h2, h3, h4, h6, h7, h8, h9⟩ := tr
  exact I.adopt2 m1 (fun u z => by rw [f1.1] at z; cases z) f1.2.1 f1.2.2.1 f1.2.2.2 ⟨⟨oe, vs, h1, h2.1, h3⟩, ⟨oe, h1⟩, fun g1 g2 ⟨o, ws, z1, z2, z3⟩ k => ⟨o, ws, k o z1, z2, z3⟩⟩
/-- and stays there when its records are written -/
theorem catch_on {ea C : Addr} {x : List Addr} {h' : Heap} (I : Inv X pins σ (upd H ea (excV ea C)) s) (f1 : Fresh X pins ea) (fx : ∀ T ∈ x, Fresh X pins T ∧ upd H ea (excV ea C) T = none) (lf : Lft X.stack ea x s.heap h') (hea : ∃ o vs, h'.get? ea = some o ∧ o.cls = .ref C ∧ o.data = .fields vs) :
    Inv X pins σ (upd H ea (excV ea C)) { s with heap := h' } := by
  have tk : ∀ b, upd H ea (excV ea C) b = none → b ≠ ea := fun b hb z => by rw [z, upd_same] at hb; cases hb
  have old : ∀ b o, X.s₀.heap.get? b = some o → b ≠ ea ∧ b ∉ x ∧ b ≠ X.env.locals := fun b o q => by
    refine ⟨fun z => ?_, fun z => ?_, fun z => ?_⟩
    · rw [z, f1.1] at q; cases q
    · rw [(fx b z).1.1] at q; cases q
    · have h1 := Heap.lt_size q
      rw [z] at h1
      exact absurd I.ok.above (Nat.not_le.mpr h1)
  have one : ∀ b o, b ≠ ea → b ∉ x → s.heap.get? b = some o → ∃ sl, h'.get? b = some { o with slots := sl } := fun b o z1 z2 q => by
    by_cases hb : b ∈ frs X.stack
    · exact lf.slot b o hb q
    · exact ⟨o.slots, lf.keep b o hb z1 z2 q⟩
  have nstk : ∀ b, b ≠ X.env.locals → b ∉ X.fs → b ∉ frs X.stack := fun b z1 z2 z => by
    rcases List.mem_cons.mp (I.stkSub b z) with z | z
    · exact z1 z
    · exact z2 z
  have cl : ∀ x' c, X.env.cells.lookup x' = some c → ∀ v, s.heap.IsCell c v → h'.IsCell c v := fun x' c e v ⟨o, ho, hd⟩ => by
    obtain ⟨sl, z⟩ := one c o (f1.2.2.1 x' c e) (fun z => (fx c z).1.2.2.1 x' c e rfl) ho
    exact ⟨_, z, hd⟩
  refine ⟨I.ok, I.os, I.bare, ⟨fun b o q n hb hx => ?_, fun b o q n hb hx => ?_, I.base.free, fun b o q hx => ?_, I.base.tups, I.base.frzs, I.base.tbls⟩, ?_, fun x' c e => ?_, I.free, I.freeC, fun p hp => ?_, fun b u q => ?_, I.len⟩
  · exact lf.keep b o (nstk b (old b o q).2.2 hb) (old b o q).1 (old b o q).2.1 (I.base.keep b o q n hb hx)
  · obtain ⟨sl, z⟩ := I.base.slot b o q n hb hx
    obtain ⟨sl', z'⟩ := one b _ (old b o q).1 (old b o q).2.1 z
    exact ⟨sl', z'⟩
  · obtain ⟨o', z⟩ := I.base.there b o q hx
    obtain ⟨sl', z'⟩ := one b _ (old b o q).1 (old b o q).2.1 z
    exact ⟨_, z'⟩
  · obtain ⟨m, ⟨o, es, ep, ho, hd, r⟩, hl⟩ := I.loc
    obtain ⟨sl, z⟩ := one X.env.locals o (Ne.symm f1.2.1) (fun z => (fx _ z).1.2.1 rfl) ho
    refine ⟨m, ⟨_, es, ep, z, hd, r⟩, fun i y v e1 e2 e3 => ?_⟩
    obtain ⟨u, ru, l⟩ := hl i y v e1 e2 e3
    refine ⟨u, ru, ?_⟩
    rcases l with l | ⟨k, c, e, z⟩
    · exact .inl l
    · exact .inr ⟨k, c, e, cl y c e _ z⟩
  · obtain ⟨v, z⟩ := I.cell x' c e
    exact ⟨v, cl x' c e v z⟩
  · obtain ⟨z1, z2, z3, z4, z5⟩ := I.pin p hp
    exact ⟨lf.keep _ _ (nstk _ z3 z4) (f1.2.2.2 p hp) (fun z => (fx _ z).1.2.2.2 p hp rfl) z1, z2, z3, z4, z5⟩
  · by_cases z1 : b = ea
    · subst z1
      rw [upd_same] at q; cases q
      obtain ⟨o, vs, y1, y2, y3⟩ := hea
      exact ⟨⟨o, vs, y1, y2, y3⟩, ⟨o, y1⟩, fun g1 g2 ⟨o, ws, y1, y2, y3⟩ k => ⟨o, ws, k o y1, y2, y3⟩⟩
    · have tr : ∀ c v, upd H ea (excV ea C) c = some v → c ≠ ea → ∀ o, s.heap.get? c = some o → h'.get? c = some o := fun c v hc z o r => lf.keep c o (fun y => by rw [I.stkFree c y] at hc; cases hc) z (fun y => by rw [(fx c y).2] at hc; cases hc) r
      refine (I.hok b u q).stay (fun c v hc r => ?_) (fun _ r => r) fun _ _ r => r
      rcases hc with rfl | hc
      · exact tr c u q z1 v r
      · refine tr c _ hc (fun z => ?_) v r
        rw [z, upd_same] at hc; cases hc
end
section
variable {M : Model} {A : Around} {E : Value → Shared → Prop} {s : Shared}
theorem land_step {b0 : Heap} {l : List Env} {e T : Addr} {cls : Value} {Q : Unit → Shared → Prop} (hl : s.heap.FunFrames b0 l) (ht : Trc s.heap e T cls)
    (h : ∀ h' T', Lft l e [T] s.heap h' → Trc h' e T' cls → (T' = T ∨ s.heap.get? T' = none) → Q () { s with heap := h' }) : wpAny M A (setFlight (.ref e) none) Q E s := by
  obtain ⟨oe, vs, oT, ts, a0, h1, h2, h3, h4, h6, h7, h8, h9⟩ := ht
  refine wpAny_setFlight_noneW (base := lack s.heap (e :: [T] ++ l.filterMap (·.frame))) (cls := cls) (a0 := a0) (fl := .none) (lack_stays _ _) (frames_lack (fun b hb => List.mem_append_right _ hb) hl) ⟨oe, vs, T, oT, ts, h1, h2, h3, h4, lack_in (by simp), h6, h7, h8, h9⟩ fun h2' j1 j2 j3 j4 => ?_
  have L' : Heap.LeftW (lack s.heap (e :: [T] ++ l.filterMap (·.frame))) l e cls a0 s.heap h2' := ⟨j1, j2, j3, fun b o hb hn => ⟨o.slots, j4 b o hb hn⟩⟩
  obtain ⟨l', T', t, z⟩ := lft_of (base := b0) hl L' (by rw [h1]; simp)
  refine h h2' T' l' t ?_
  rcases z with z | z
  · exact .inl (by simpa using z)
  · exact .inr z
end
section
variable {X : Cx} {pins : List (Addr × Obj)} {σ : St} {H : Hp} {s : Shared}
/-- a name goes -/
theorem Inv.unset {i : Nat} {n : Str} {v : Option Value} {m : Str → Option Value} {h' : Heap} {t' : Nat} (I : Inv X pins σ H s) (hN : X.N.Nodup) (hi : X.N[i]? = some n) (hl : ∀ (i : Nat) (x : Str) (v : V), X.N[i]? = some x → σ[i]? = some (some v) → Vis X.env.scope x → ∃ u, RelV v u ∧ Look X.env s.heap m x u)
    (hn : h'.Ns X.env.locals (fun x => if x = n then v else m x)) (hs : Heap.SameBut X.env.locals s.heap h') : Inv X pins (σ.set i none) H { s with heap := h', toks := t' } := by
  have cne : ∀ x c, X.env.cells.lookup x = some c → c ≠ X.env.locals := fun x c e z => by
    obtain ⟨v, o, ho, hd⟩ := I.cell x c e
    obtain ⟨m, ⟨o', es, ep, ho', hd', _⟩, _⟩ := I.loc
    rw [z, ho'] at ho; cases ho
    rw [hd'] at hd; cases hd
  have old : ∀ b o, X.s₀.heap.get? b = some o → b ≠ X.env.locals := fun b o q z => by
    have h1 := Heap.lt_size q
    rw [z] at h1
    exact absurd I.ok.above (Nat.not_le.mpr h1)
  refine ⟨I.ok, I.os, I.bare, ⟨fun b o q n hb hx => hs.extBut b o (old b o q) (I.base.keep b o q n hb hx), fun b o q n hb hx => ?_, I.base.free, fun b o q hx => ?_, I.base.tups, I.base.frzs, I.base.tbls⟩, ⟨_, hn, fun j y w e1 e2 e3 => ?_⟩, fun x c e => ?_, I.free, I.freeC, fun p hp => ?_, fun b u q => ?_, ?_⟩
  · obtain ⟨sl, z⟩ := I.base.slot b o q n hb hx
    exact ⟨sl, hs.extBut b _ (old b o q) z⟩
  · obtain ⟨o', z⟩ := I.base.there b o q hx
    exact ⟨o', hs.extBut b _ (old b o q) z⟩
  · by_cases hj : j = i
    · subst hj
      rw [List.getElem?_set_self'] at e2
      cases z : σ[j]? with
      | none => rw [z] at e2; simp at e2
      | some _ => rw [z] at e2; simp at e2
    · rw [List.getElem?_set_ne (Ne.symm hj)] at e2
      obtain ⟨u, ru, l⟩ := hl j y w e1 e2 e3
      refine ⟨u, ru, ?_⟩
      rcases l with ⟨k, l⟩ | ⟨k, c, e, o, ho, hd⟩
      · refine .inl ⟨k, ?_⟩
        have : y ≠ n := fun z => hj (nodup_ix hN e1 (by rw [z]; exact hi))
        show (if y = n then v else m y) = some u
        rw [if_neg this]; exact l
      · exact .inr ⟨k, c, e, o, hs.extBut c o (cne y c e) ho, hd⟩
  · obtain ⟨v, o, ho, hd⟩ := I.cell x c e
    exact ⟨v, o, hs.extBut c o (cne x c e) ho, hd⟩
  · obtain ⟨z1, z2, z3, z4, z5⟩ := I.pin p hp
    exact ⟨hs.extBut _ _ z3 z1, z2, z3, z4, z5⟩
  · refine (I.hok b u q).stay (fun c v hc r => hs.extBut c v (fun z => ?_) r) (fun _ r => r) fun _ _ r => r
    rcases hc with rfl | hc
    · rw [z, I.free] at q; cases q
    · rw [z, I.free] at hc; cases hc
  · rw [List.length_set]; exact I.len
/-- the context of a handler's suite -/
def xMark (X : Cx) (v : Value) : Cx := { X with A := X.A.mark (some v), calm := false, xe := fun _ _ => False }
theorem inv_mark {v : Value} (I : Inv X pins σ H s) : Inv (xMark X v) pins σ H s :=
  ⟨⟨I.ok.mod, I.ok.kind, I.ok.glob, I.ok.blt, I.ok.above, I.ok.inj, I.ok.has, I.ok.cab, (fun z => absurd (show false = true from z) Bool.false_ne_true), I.ok.frames, I.ok.stk, I.ok.exf, I.ok.bs, I.ok.bsz, I.ok.noex, I.ok.exfs, I.ok.funs, I.ok.frf⟩, I.os, I.bare, I.base, I.loc, I.cell, I.free, I.freeC, I.pin, I.hok, I.len⟩
theorem inv_unmark {v : Value} (c : X.calm = true → X.A.handled = none) (fr : X.A.frames = some X.stack) (I : Inv (xMark X v) pins σ H s) : Inv X pins σ H s :=
  ⟨⟨I.ok.mod, I.ok.kind, I.ok.glob, I.ok.blt, I.ok.above, I.ok.inj, I.ok.has, I.ok.cab, c, fr, I.ok.stk, I.ok.exf, I.ok.bs, I.ok.bsz, I.ok.noex, I.ok.exfs, I.ok.funs, I.ok.frf⟩, I.os, I.bare, I.base, I.loc, I.cell, I.free, I.freeC, I.pin, I.hok, I.len⟩
end
theorem Trc.there {h : Heap} {e T C : Addr} (t : Trc h e T (.ref C)) : ∃ o vs, h.get? e = some o ∧ o.cls = .ref C ∧ o.data = .fields vs := by
  obtain ⟨oe, vs, oT, ts, a0, h1, h2, h3, _⟩ := t
  exact ⟨oe, vs, h1, h2.1, h3⟩
theorem Trc.ne {h : Heap} {e T : Addr} {c : Value} (t : Trc h e T c) : T ≠ e := by
  obtain ⟨oe, vs, oT, ts, a0, h1, h2, h3, h4, h6, _⟩ := t
  exact h6
/-- try: .. except P as e: ..; within the suite the exception lies at ea, and behind it the name is gone -/
def sTry (K : PySem.W.Frag) (Pa : Addr) (iE : Nat) (tb : (St → Addr → Hp → Prop) → TS) (ts : TS) : TS := fun D σ H =>
  tb (fun σ' C H' => Und K C Pa ∧ ∀ ea, H' ea = none → ts { nx := fun σ2 H2 => D.nx (σ2.set iE none) H2, rt := fun _ _ => False } (σ'.set iE (some (.ref ea))) (upd H' ea (excV ea C))) D σ H
theorem ps_try {X : Cx} {body : List Stmt} {tb : (St → Addr → Hp → Prop) → TS} {ts : TS} {iE : Nat} {n x : Str} {Pa : Addr} {b₀ : Stmt} {suite : List Stmt} {tp hpos pos : Pos} (hx : X.ex = []) (hst : X.stack = X.env :: X.outer) (hfr : X.env.frame = some X.env.locals)
    (hg : Gl X x) (hm : X.mg x = some (.ref Pa)) (hN : X.N.Nodup) (hi : X.N[iE]? = some n) (hl : X.env.scope.names.lookup n = some .local) (hb : ∀ pins0 Cat, PSs (xTry X pins0 Cat) body (tb Cat)) (hs : ∀ v, PSs (xMark X v) (b₀ :: suite) ts) (hdb : (x == ("__debug__" : Str)) = false := by decide) :
    PS X (.Try body [.ExceptHandler (some (.Name x tp)) (some n) (b₀ :: suite) hpos] [] [] pos) (sTry X.K Pa iE tb ts) := by
  intro pins s σ H D I h
  refine wpAny_Try_except (wpAny_mono (hb pins _ [] s σ H D (inv_try I) h) (fun f s1 q => ?_) (fun e s1 q => ?_))
  · cases f with
    | next => obtain ⟨σ', H', I', q⟩ := q; exact wpAny_execs_nil ⟨σ', H', inv_untry I', q⟩
    | brk => obtain ⟨σ', H', I', q⟩ := q; exact ⟨σ', H', inv_untry I', q⟩
    | cont => obtain ⟨σ', H', I', q⟩ := q; exact ⟨σ', H', inv_untry I', q⟩
    | ret u => obtain ⟨v, σ', H', I', r, q⟩ := q; exact ⟨v, σ', H', inv_untry I', r, q⟩
  · obtain ⟨ea, T, C, H', σ', rfl, J, tr, m1, m2, f1, f2, und, cat⟩ := q
    have fr : X.A.frames = some (X.env :: X.outer) := by rw [← hst]; exact J.ok.frames
    have stk : s1.heap.FunFrames X.base (X.env :: X.outer) := by rw [← hst]; exact J.stack
    refine note_step (b0 := X.base) fr stk hfr tr fun h2 T2 lf tr2 hT2 => ?_
    have J1 := catch_in J tr m1 f1
    have mT : upd H' ea (excV ea C) T = none := by rw [upd_ne tr.ne]; exact m2
    have J2 : Inv X pins σ' (upd H' ea (excV ea C)) { s1 with heap := h2 } := catch_on J1 f1 (x := [T]) (fun b hb => by rw [List.mem_singleton.mp hb]; exact ⟨f2, mT⟩) (by rw [hst]; exact lf) tr2.there
    have fT2 : Fresh X pins T2 ∧ upd H' ea (excV ea C) T2 = none := by
      rcases hT2 with rfl | z
      · exact ⟨f2, mT⟩
      · refine ⟨J1.fresh_of hx z, ?_⟩
        cases q : upd H' ea (excV ea C) T2 with
        | none => rfl
        | some o =>
          obtain ⟨u, hu⟩ := (J1.hok T2 o q).get
          rw [z] at hu; cases hu
    refine wpAny_handleBy_cons (codeAny_handlers_test ?_) (by intro q; cases q)
    refine ld_glob (X := xMark X (.ref ea)) (inv_mark J2) hg hm ?_ hdb
    obtain ⟨oe, vs, he2, hc2, _⟩ := tr2.there
    refine exc_match (s := { s1 with heap := h2 }) und J2.kIn he2 hc2 ?_
    show codeAny _ _ _ _ _
    refine codeAny_handlers_suite_as ?_
    have stk2 : h2.FunFrames X.base (X.env :: X.outer) := by rw [← hst]; exact J2.stack
    refine land_step (s := { s1 with heap := h2 }) (b0 := X.base) (l := X.env :: X.outer) stk2 tr2 fun h3 T3 lf3 tr3 hT3 => ?_
    have J3 : Inv X pins σ' (upd H' ea (excV ea C)) { s1 with heap := h3 } := catch_on (s := { s1 with heap := h2 }) J2 f1 (x := [T2]) (fun b hb => by rw [List.mem_singleton.mp hb]; exact fT2) (by rw [hst]; exact lf3) tr3.there
    refine store_ok (v := .ref ea) J3 hN hi (.inl hl) rfl (fun s4 J4 => ?_) (.inr hl)
    refine wpAny_mono (hs (.ref ea) pins s4 _ _ _ (inv_mark J4) (cat ea m1)) (fun f s5 q5 => ?_) (fun _ _ z => z.elim)
    cases f with
    | next =>
      obtain ⟨σ5, H5, I5, q5⟩ := q5
      have I5 := inv_unmark J.ok.hd J.ok.frames I5
      obtain ⟨m, hn, hlk⟩ := id I5.loc
      exact wpAny_nameGoes_keeps hl hn (by rw [I5.ok.kind]; rfl) fun h6 v hn6 hs6 => ⟨_, H5, I5.unset hN hi hlk hn6 hs6, q5⟩
    | brk => obtain ⟨_, _, _, q⟩ := q5; exact False.elim q
    | cont => obtain ⟨_, _, _, q⟩ := q5; exact False.elim q
    | ret u => obtain ⟨_, _, _, _, _, q⟩ := q5; exact False.elim q
end L2

set_option Elab.async false
set_option linter.all false
set_option maxRecDepth 100000
set_option maxHeartbeats 2000000
namespace L2
open PySem PySem.Spec PyProof.Rows
/-! ### the class of an exception of the text, asked for -/
structure Lkp (M : Model) (h : Heap) (C : Addr) : Prop where
  ga : PySem.W.Looks M h (typeLookup (.ref C) "__getattribute__") (some (.builtin "BaseException.__getattribute__"))
  no : PySem.W.Looks M h (typeLookup (.ref C) "__getattr__") none
  cls : PySem.W.Looks M h (typeLookup (.ref C) "__class__") (some (.builtin "object.__class__"))
  be : PySem.W.Looks M h (isSubtype (.ref C) (.type "BaseException")) true
  obj : PySem.W.Looks M h (isSubtype (.ref C) (.type (".".intercalate ("object.__class__".cutAt '.').dropLast))) true
section
variable {prog : Program} {w : World} {A : Around} {E : Value → Shared → Prop} {h : Heap} {g : Array GenState} {d : Drawn} {t : Nat} {os : OsState} {a C : Addr} {o : Obj}
theorem cls_get {R : Result → Shared → Prop} (L : Lkp (model prog w) h C) (hx : h.get? a = some o) (hc : o.cls = .ref C) (hq : R (.ok (.ret (.ref C))) ⟨h, g, d, t, os⟩) :
    codeAny (model prog w) A (.call (.builtin "getset_descriptor.__get__") ⟨[.builtin "object.__class__", .ref a, .ref C], []⟩) R ⟨h, g, d, t, os⟩ := by
  have hT5 : (⟨h, g, d, t, os⟩ : Shared).TypeIs (.builtin "object.__class__") "getset_descriptor" := F.typeOf_object_class
  refine codeAny_call_builtin F.slot_gs_get.plain F.entry_gs_get (F.slot_gs_get.check _ _ _ _ _ _ _ _ hT5 (F.args_gs_get _ _ _) ?_)
  repeat (any_goals (first | assumption | (with_reducible refine wpAny_loadPart_at hx ?_; rw [hc]) | (refine L.obj _ _ _ _ (fun _ _ e => e) ?_) | wp_step))
  refine ⟨Code.quiet_builtin _ (by decide +kernel), codeAny_builtin F.entry_object_class ?_⟩
  repeat (any_goals (first | assumption | (with_reducible refine wpAny_loadPart_at hx ?_; rw [hc]) | wp_step))
theorem cls_check {M : Model} {nameV : Value} {Q : Unit → Shared → Prop} (L : Lkp M h C) (hx : h.get? a = some o) (hc : o.cls = .ref C) (hq : Q () ⟨h, g, d, t, os⟩) : wpAny M A (checkBuiltinCall "BaseException.__getattribute__" ⟨[.ref a, nameV], []⟩) Q E ⟨h, g, d, t, os⟩ := by
  have hk : builtinKind "BaseException.__getattribute__" = some .slot := by decide +kernel
  have hsplit : splitId "BaseException.__getattribute__" = some ("BaseException", "__getattribute__") := by decide +kernel
  have ha := F.args_bexc_ga (.ref a) nameV
  simp only [checkBuiltinCall, hk, hsplit]
  refine wpAny_bind ?_
  unfold isInstance
  repeat (first | (with_reducible refine wpAny_loadPart_at hx ?_; rw [hc]) | (refine L.be _ _ _ _ (fun _ _ e => e) ?_) | wp_step)
  exact hq
theorem cls_entry {tk : Tok} {Q : Fin → Shared → Prop} (L : Lkp (model prog w) h C) (hx : h.get? a = some o) (hc : o.cls = .ref C) (hq : Q (.done (.ret (.ref C))) ⟨h, g, d, t, os⟩) :
    wpAny (model prog w) A (Builtin.«object.__getattribute__» ⟨[.ref a, .str "__class__" tk], []⟩) Q E ⟨h, g, d, t, os⟩ := by
  have hT5 : (⟨h, g, d, t, os⟩ : Shared).TypeIs (.builtin "object.__class__") "getset_descriptor" := F.typeOf_object_class
  have f5 := F.typeOf_object_class
  have f6 := F.slot_gs_get.lookup
  have f7 := F.slot_gs_set.lookup
  repeat (any_goals (first | assumption | (with_reducible refine wpAny_loadPart_at hx ?_; rw [hc]) | (refine L.cls _ _ _ _ (fun _ _ e => e) ?_) | wp_step))
  refine cls_get L hx hc ?_
  repeat (any_goals (first | assumption | wp_step))
theorem cls_call {tk : Tok} {R : Result → Shared → Prop} (L : Lkp (model prog w) h C) {B : String} (hg : Slot B "__getattribute__" "BaseException.__getattribute__") (hx : h.get? a = some o) (hc : o.cls = .ref C) (hq : R (.ok (.ret (.ref C))) ⟨h, g, d, t, os⟩) :
    codeAny (model prog w) A (.call (.builtin "BaseException.__getattribute__") ⟨[.ref a, .str "__class__" tk], []⟩) R ⟨h, g, d, t, os⟩ :=
  codeAny_call_builtin hg.plain F.entry_bexc_ga (cls_check L hx hc (cls_entry L hx hc hq))
theorem cls_by {tk : Tok} {fill expr : Bool} {Q : Value → Shared → Prop} (L : Lkp (model prog w) h C) {B : String} (hg : Slot B "__getattribute__" "BaseException.__getattribute__") (hx : h.get? a = some o) (hc : o.cls = .ref C) (hq : Q (.ref C) ⟨h, g, d, t, os⟩) :
    wpAny (model prog w) A (getAttrBy (.ref a) (.str "__class__" tk) fill expr) Q E ⟨h, g, d, t, os⟩ := by
  have f3 := hg.bind (.ref a)
  have hx0 : (expr && onTheHeap (Value.builtin "BaseException.__getattribute__")) = false := by cases expr <;> rfl
  have hx2 : (Value.builtin "BaseException.__getattribute__" == Value.builtin "object.__getattribute__") = false := by decide +kernel
  have hx1 : (onTheHeap (Value.ref C) && Value.builtin "BaseException.__getattribute__" == Value.builtin "object.__getattribute__") = false := by rw [hx2]; rfl
  repeat (any_goals (first | assumption | (with_reducible refine wpAny_loadPart_at hx ?_; rw [hc]) | (refine L.ga _ _ _ _ (fun _ _ e => e) ?_) | (refine L.no _ _ _ _ (fun _ _ e => e) ?_) | wp_step))
  refine cls_call L hg hx hc ?_
  repeat (any_goals (first | assumption | wp_step))
theorem cls_attr {Q : Option Value → Shared → Prop} (L : Lkp (model prog w) h C) {B : String} (hg : Slot B "__getattribute__" "BaseException.__getattribute__") (hx : h.get? a = some o) (hc : o.cls = .ref C) (hq : Q (some (.ref C)) ⟨h, g, d, t + 1, os⟩) : wpAny (model prog w) A (getAttr? (.ref a) "__class__") Q E ⟨h, g, d, t, os⟩ := by
  unfold getAttr? getAttrBy?
  repeat (any_goals (first | assumption | with_reducible apply cls_by L hg hx hc | wp_step))
end
/-- a class of the text that is an exception, as isinstance asks for it -/
structure ExC (K : PySem.W.Frag) (C : Addr) : Prop where
  lk : ∀ (M : Model) (h : Heap), K.In h → Lkp M h C
  cl : (PySem.W.clsIn K C).isSome = true
  sl : ∃ B, Slot B "__getattribute__" "BaseException.__getattribute__"
theorem kitx_exc {K : PySem.W.Frag} {e C : Addr} (x : ExC K C) : PySem.W.KitX K (.ref e) (.ref C) (fun h => ∃ o, h.get? e = some o ∧ o.cls = .ref C) where
  ty := fun M h _ p => by
    obtain ⟨o, h1, h2⟩ := p
    exact h2 ▸ (PySem.W.Looks.ld h1).andThen .now
  it := fun _ _ X _ => by
    have hcD := x.cl
    unfold PySem.W.clsIn at hcD
    split at hcD
    · rename_i c' d' cd' sl' ho
      intro A' Q' E' s' k q
      unfold isType loadHead
      exact wpAny_bind (wpAny_loadPart (k _ _ (X _ _ ho)) (wpAny_pure q))
    · cases hcD
  ne := fun h tp dd its n sl X htp => by
    refine Bool.eq_false_iff.mpr fun q => ?_
    have e : C = tp := Value.ref.inj (beq_iff_eq.mp q)
    subst e
    have hcD := x.cl
    unfold PySem.W.clsIn at hcD
    split at hcD
    · rename_i c' d' cd' sl' ho
      have z := (X _ _ ho).symm.trans htp
      cases z
    · cases hcD
  ca := fun {prog w A E Q s} X p k => by
    obtain ⟨h, g, d, t, os⟩ := s
    obtain ⟨o, h1, h2⟩ := p
    obtain ⟨B, hg⟩ := x.sl
    exact cls_attr (x.lk _ _ X) hg h1 h2 k
theorem call_isinstE {X : Cx} : CallR X (.builtin "isinstance") (fun xs H Q => ∃ ea C c u b, xs = [.ref ea, c] ∧ H ea = some (excV ea C) ∧ ExC X.K C ∧ (∀ u', RelV c u' → u' = u) ∧ PySem.W.kitOne X.K (.ref C) u = some b ∧ Q (.bl b) H) := by
  intro pins s σ H xs us Q I r h
  obtain ⟨ea, C, c, u, b, rfl, he, x, hu, hk, q⟩ := h
  obtain ⟨u1, u2, rfl, r1, r2⟩ := vals2 r
  cases r1
  obtain rfl := hu _ r2
  obtain ⟨⟨o, vs, h1, h2, _⟩, _⟩ := (show ObjOk X.prog X.w H s.heap ea (excV ea C) from I.hok ea _ he)
  exact PySem.W.kia_one (kitx_exc x) I.kIn ⟨o, h1, h2⟩ hk (fun z => nomatch z) fun tk => ⟨.bl b, H, I.tok tk, rfl, q⟩
theorem call_isinstEs {X : Cx} : CallR X (.builtin "isinstance") (fun xs H Q => ∃ ea C tp cs us b, xs = [.ref ea, .ref tp] ∧ H ea = some (excV ea C) ∧ H tp = some (.tup cs) ∧ ExC X.K C ∧ (∀ us', Vals cs us' → us' = us) ∧ PySem.W.kitAny X.K (.ref C) us = some b ∧ Q (.bl b) H) := by
  intro pins s σ H xs us Q I r h
  obtain ⟨ea, C, tp, cs, us, b, rfl, he, ht, x, hu, hk, q⟩ := h
  obtain ⟨u1, u2, rfl, r1, r2⟩ := vals2 r
  cases r1
  cases r2
  obtain ⟨⟨o, vs, h1, h2, _⟩, _⟩ := (show ObjOk X.prog X.w H s.heap ea (excV ea C) from I.hok ea _ he)
  obtain ⟨_, its, rv, ot, g1, g2, k, g3⟩ := (show ObjOk X.prog X.w H s.heap tp (.tup cs) from I.hok tp _ ht)
  obtain rfl := hu _ rv
  obtain ⟨oc, od, dat, sl⟩ := ot
  cases (show oc = _ from g2)
  cases (show dat = _ from g3)
  exact PySem.W.kia_tup (kitx_exc x) I.kIn ⟨o, h1, h2⟩ g1 hk (fun z => nomatch z) fun tk => ⟨.bl b, H, I.tok tk, rfl, q⟩
end L2

set_option Elab.async false
set_option linter.all false
set_option maxRecDepth 100000
set_option maxHeartbeats 2000000
namespace L2
open PySem PySem.Spec PyProof.Rows
/-! ### count and index of a truth in a list of truths -/
theorem vals_bools : ∀ {bs : List Bool} {its : List Value}, Vals (bs.map V.bl) its → its = bs.map Value.bool
  | [], _, .nil => rfl
  | b :: r, _, .cons h t => by
    cases (show _ = Value.bool b from h)
    rw [vals_bools t]; rfl
theorem eq_true {X : Cx} {pins : List (Addr × Obj)} {σ : St} {H : Hp} {s : Shared} (I : Inv X pins σ H s) {A : Around} (hu : A.units + 0 < cLine) (b : Bool) : SeqAt.EqAt A s (.bool b) (.bool true) (Value.bool b == Value.bool true) := by
  have z := (EqR.flat (K := X.K) (H := H) (n := 0) (x := .bl b) (y := .bl true) rfl rfl).at I (A := A) (u := .bool b) (v := .bool true) rfl rfl hu
  have e : eqV (.bl b) (.bl true) = (Value.bool b == Value.bool true) := by cases b <;> rfl
  rw [e] at z; exact z
theorem mt_countB {X : Cx} (hu : X.A.units + 64 < cLine) : MtR X "list.count" (fun x vs H Q => ∃ (l : Addr) (bs : List Bool), x = .ref l ∧ vs = [.bl true] ∧ SqL X.K H l (bs.map V.bl) ∧ Q (.int (bs.countP id : Nat)) H) := by
  intro pins s σ H x vs v us Q I rx rv h
  obtain ⟨l, bs, rfl, rfl, hq, q⟩ := h
  cases rx
  obtain ⟨u, rfl, ru⟩ := vals1 rv
  cases ru
  obtain ⟨its, r, ⟨o, n, ho, hc, hs, hd⟩, hz⟩ := I.list hq
  have ei := vals_bools r
  subst ei
  obtain ⟨oc, od, dat, sl⟩ := o
  cases (show oc = _ from hc)
  cases (show dat = _ from hd)
  refine call_meets F.slot_list_count ⟨_, ho, rfl⟩ F.entry_list_count (F.args_list_count_2 _ _) (SeqAt.list_countAt l (bs.map Value.bool).toArray n od sl (.bool true) (fun v => v == .bool true)) ⟨ho, fun y hy => ?_, ?_⟩
  · have hy' : y ∈ bs.map Value.bool := by simpa using hy
    obtain ⟨b, _, rfl⟩ := List.mem_map.mp hy'
    exact eq_true I (by show X.A.units + 1 + 0 < cLine; omega) b
  · have e : (bs.map Value.bool).countP (fun v => v == .bool true) = bs.countP id := by
      rw [List.countP_map]
      congr 1
      funext b
      cases b <;> rfl
    refine ⟨.int (bs.countP id : Nat), H, I.tok _, ⟨s.toks, ?_⟩, q⟩
    show Value.int (((bs.map Value.bool).toArray.toList.countP fun v => v == .bool true : Nat) : Int) s.toks = _
    rw [show (bs.map Value.bool).toArray.toList = bs.map Value.bool from rfl, e]
theorem mt_indexB {X : Cx} (hu : X.A.units + 64 < cLine) : MtR X "list.index" (fun x vs H Q => ∃ (l : Addr) (bs : List Bool) (j : Nat), x = .ref l ∧ vs = [.bl true] ∧ SqL X.K H l (bs.map V.bl) ∧ bs[j]? = some true ∧ (∀ m, m < j → bs[m]? = some false) ∧ bs.length ≤ 1000 ∧ Q (.int (j : Nat)) H) := by
  intro pins s σ H x vs v us Q I rx rv h
  obtain ⟨l, bs, j, rfl, rfl, hq, hj, hb, hl, q⟩ := h
  cases rx
  obtain ⟨u, rfl, ru⟩ := vals1 rv
  cases ru
  obtain ⟨its, r, ⟨o, n, ho, hc, hs, hd⟩, hz⟩ := I.list hq
  have ei := vals_bools r
  subst ei
  obtain ⟨oc, od, dat, sl⟩ := o
  cases (show oc = _ from hc)
  cases (show dat = _ from hd)
  have hjl : j < bs.length := (List.getElem?_eq_some_iff.mp hj).1
  refine call_meets F.slot_list_index ⟨_, ho, rfl⟩ F.entry_list_index (F.args_list_index_2 _ _) (SeqAt.list_indexAt l (bs.map Value.bool).toArray n od sl (.bool true) (fun v => v == .bool true) j (by simpa using hjl) (by omega) ?_ ?_) ⟨ho, fun y hy => ?_, ?_⟩
  · have : bs[j] = true := (List.getElem?_eq_some_iff.mp hj).2
    simp [this]
  · intro m hm hmj
    have : bs[m]'(by simpa using hm) = false := (List.getElem?_eq_some_iff.mp (hb m hmj)).2
    simp [this]
  · have hy' : y ∈ bs.map Value.bool := by simpa using hy
    obtain ⟨b, _, rfl⟩ := List.mem_map.mp hy'
    exact eq_true I (by show X.A.units + 1 + 0 < cLine; omega) b
  · exact ⟨.int (j : Nat), H, I.tok _, ⟨_, rfl⟩, q⟩
/-! ### sum of a list of numbers -/
end L2
namespace L2
open PySem PySem.Spec PyProof.Rows
/-! ### a call, within a try, of a def that is picked out of a list -/
def CalF (P : Program) (w : World) (K : PySem.W.Frag) (mg : Str → Option Value) (base : Heap) (f : Addr) (k : Nat) (ps : List Str) (sp : Sp) : Prop :=
  ∃ fd, FnOk P w K mg base (CX1 P w) k f fd ps sp ∧ Binds K fd ps [] ∧ PySem.W.keepIn K (.ref f) = true
def tCallV (P : Program) (w : World) (K : PySem.W.Frag) (mg : Str → Option Value) (base : Heap) (k' : Nat) (Cat : St → Addr → Hp → Prop) (tf : TE) (t : TA) : TE := fun σ H Q => tf σ H fun x H1 =>
  ∃ (f : Addr) (k : Nat) (ps : List Str) (sp : Sp), x = .ref f ∧ CalF P w K mg base f k ps sp ∧ k ≤ k' ∧ t σ H1 fun vs H2 => sp vs H2 Q fun v _ H' => ∀ C, v = Value.ref C → Cat σ C H'
theorem pe_calV {X : Cx} {pins0 : List (Addr × Obj)} {Cat : St → Addr → Hp → Prop} {k' : Nat} {o i e : Expr} {es : List Expr} {tf : TE} {t : TA} {p pos : Pos} (hx : X.ex = []) (hr : Room k' X.A) (hf : PE (xTry X pins0 Cat) (.Subscript o i p) tf) (ha : PA (xTry X pins0 Cat) (e :: es) t)
    (he : starEach (e :: es) X.env = (false, eval e X.env) :: starEach es X.env := by rfl) (hpl : (backTo pos (starEach es X.env)).any (·.1) = false := by rfl) :
    PE (xTry X pins0 Cat) (.Call (.Subscript o i p) (e :: es) [] pos) (tCallV X.prog X.w X.K X.mg X.base k' Cat tf t) := by
  intro pins s σ H Q I h
  show wpAny (model X.prog X.w) X.A (do callWith pos (← eval (.Subscript o i p) X.env) [] (backTo pos (starEach (e :: es) X.env)) (backToKw pos (keywordEach [] X.env))) _ _ s
  refine wpAny_bind (wpAny_mono (hf pins s σ H _ I h) (fun fv s0 ⟨x, H0, I0, rx, f, k, ps, sp, ex, C, hk, h⟩ => ?_) fun _ _ z => z)
  subst ex
  cases rx
  obtain ⟨fd, F, b, kp⟩ := C
  refine PySem.W.callWith_K (h₀ := X.base) I0.ok.mod.kin kp (thn (ha pos pins s0 σ H0 _ I0 h) fun us s1 ⟨vs, H1, I1, r, q⟩ => ⟨I1.kIn, ?_⟩) he hpl
  have r2 : Vals vs (us ++ []) := by rw [List.append_nil]; exact r
  have hl : (us ++ []).length = ps.length := by rw [← r2.length]; exact F.len _ _ _ _ q
  refine wpAny_call (codeAny_mono (F.run X.A X.stack s1 H1 ⟨us, []⟩ (us ++ []) vs Q _ (hr.mono hk) I1.env0 (b s1 us I1.kIn hl) r2 q) fun r s' hq => ?_)
  cases r with
  | ok fl =>
    cases fl with
    | ret u => exact I1.after hq
    | next => exact False.elim hq
    | brk => exact False.elim hq
    | cont => exact False.elim hq
  | error e =>
    obtain ⟨ea, T, C, H', rfl, os, bare, un, hok, n1, n2, m1, m2, tr, q⟩ := hq
    have J := inv_untry I1
    exact ⟨ea, T, C, H', σ, rfl, J.call' os un hok bare (fun b z => nomatch z), tr, m1, m2, J.fresh_of hx n1, J.fresh_of hx n2, q C rfl⟩
end L2

set_option Elab.async false
set_option linter.all false
set_option maxRecDepth 100000
set_option maxHeartbeats 2000000
namespace L2
open PySem PySem.Spec PyProof.Rows
/-! ### the text's classes of exceptions, out of what is written of them -/
def keysB (es : Array DictEntry) : Bool := es.toList.all fun e => match e.key with | .str _ _ => true | _ => false
theorem keysB_ok {es : Array DictEntry} (h : keysB es = true) : StrKeys es := fun e he => by
  have z := List.all_eq_true.mp h e (by simpa using he)
  cases q : e.key with
  | str n t => exact ⟨n, t, rfl⟩
  | _ => rw [q] at z; cases z
section
variable {K : PySem.W.Frag} {C Pa N N' : Addr} {nm nm' q q' : Str} {bs bs' sub sub' : List Value} {hdct hdct' : Bool} {sn sn' : List Str} {ab ab' : Bool} {col col' : Option Bool} {dd dd' : Option Addr} {k0 k1 k2 k3 k5 k0' k1' k2' k3' k5' oc oc' : Option Value}
  {c1 c2 : Value} {od od' : Option Addr} {es es' : Array DictEntry} {n n' : Nat} {sl sl' : Array (Option Value)}
theorem ns_at (s : K.lookup N = some ⟨c1, od, .dict es n, sl⟩) (t : keysB es = true) {h : Heap} (X : K.In h) : h.Ns N (nsFind es) := ⟨_, es, n, X _ _ s, rfl, keysB_ok t, fun _ => rfl⟩
abbrev vMro : List Value := [.type "ValueError", .type "Exception", .type "BaseException", .type "object"]
theorem ec_sub (l : K.lookup C = some (excClassObj nm q C N bs (.ref Pa :: vMro) hdct sn sub ab col dd k0 k1 k2 k3 k5 "ValueError.__new__")) (s : K.lookup N = some ⟨c1, od, .dict es n, sl⟩) (t : keysB es = true) (i : nsFind es "__init__" = none)
    (l' : K.lookup Pa = some (excClassObj nm' q' Pa N' bs' vMro hdct' sn' sub' ab' col' dd' k0' k1' k2' k3' k5' "ValueError.__new__")) (s' : K.lookup N' = some ⟨c2, od', .dict es' n', sl'⟩) (t' : keysB es' = true) (i' : nsFind es' "__init__" = none) : EC K C :=
  ⟨_, _, _, _, _, _, _, _, _, _, _, _, _, _, _, _, "ValueError", _, _, _, nsFind es, PySem.F.excBase_ValueError, (by rfl), i, fun h X => ⟨X _ _ l, ns_at s t X, .own (X _ _ l') (ns_at s' t' X) i' .base⟩⟩
theorem und_sub (l : K.lookup C = some (excClassObj nm q C N bs (.ref Pa :: vMro) hdct sn sub ab col dd k0 k1 k2 k3 k5 "ValueError.__new__"))
    (l' : K.lookup Pa = some (excClassObj nm' q' Pa N' bs' vMro hdct' sn' sub' ab' col' dd' k0' k1' k2' k3' k5' "ValueError.__new__")) : Und K C Pa :=
  ⟨_, _, _, _, _, _, _, _, _, _, _, _, _, _, _, _, _, _, _, _, _, _, _, _, _, _, _, _, _, _, _, _, _, _, (by simp), (by rfl), fun h X => ⟨X _ _ l, X _ _ l'⟩⟩
theorem exc_of (l : K.lookup C = some (excClassObj nm q C N bs (.ref Pa :: vMro) hdct sn sub ab col dd k0 k1 k2 k3 k5 "ValueError.__new__")) (f1 : PySem.W.findIn K (.ref C) "__getattribute__" = some (some (.builtin "BaseException.__getattribute__"))) (f2 : PySem.W.findIn K (.ref C) "__getattr__" = some none)
    (f3 : PySem.W.findIn K (.ref C) "__class__" = some (some (.builtin "object.__class__"))) (f4 : PySem.W.subIn K (.ref C) (.type "BaseException") = some true) (f5 : PySem.W.subIn K (.ref C) (.type "object") = some true) : ExC K C where
  lk := fun M h X => ⟨PySem.W.looks_findIn X f1, PySem.W.looks_findIn X f2, PySem.W.looks_findIn X f3, PySem.W.looks_subIn X f4, by
    have e : (".".intercalate ("object.__class__".cutAt '.').dropLast) = "object" := by decide +kernel
    rw [e]; exact PySem.W.looks_subIn X f5⟩
  cl := by unfold PySem.W.clsIn; rw [l]; rfl
  sl := ⟨"ValueError", PySem.F.attrBase_ValueError.ga⟩
theorem kit_ref {D : Addr} {cd : ClassData} {b : Bool} (ne : (Value.ref C == Value.ref D) = false) (h1 : PySem.W.clsIn K D = some cd) (h2 : PySem.W.typeIn K (.ref D) = some (.type "type")) (h3 : PySem.W.subIn K (.ref C) (.ref D) = some b) : PySem.W.kitOne K (.ref C) (.ref D) = some b := by
  unfold PySem.W.kitOne PySem.W.kitCls
  rw [ne, if_neg (by simp)]
  show (if ((PySem.W.clsIn K D).isSome && PySem.W.typeIn K (Value.ref D) == some (Value.type "type")) = true then PySem.W.subIn K (Value.ref C) (Value.ref D) else none) = some b
  rw [h1, h2]
  exact (if_pos (by simp)).trans h3
theorem kit_self : PySem.W.kitOne K (.ref C) (.ref C) = some true := by
  unfold PySem.W.kitOne
  rw [if_pos (beq_self_eq_true _)]
theorem kit_val (h3 : PySem.W.subIn K (.ref C) (.type "ValueError") = some true) : PySem.W.kitOne K (.ref C) (.type "ValueError") = some true := by
  unfold PySem.W.kitOne PySem.W.kitCls
  have e : PySem.W.kitMeta "ValueError" = true := by decide +kernel
  have e1 : (Value.ref C == Value.type "ValueError") = false := rfl
  simp only [e1, e, if_true]
  exact h3
end
end L2
namespace L2
open PySem
theorem kit_any4 {K : PySem.W.Frag} {t a b c d : Value} (h1 : PySem.W.kitOne K t a = some false) (h2 : PySem.W.kitOne K t b = some false) (h3 : PySem.W.kitOne K t c = some false) (h4 : PySem.W.kitOne K t d = some false) : PySem.W.kitAny K t [a, b, c, d] = some false := by
  simp only [PySem.W.kitAny, h1, h2, h3, h4]
end L2

set_option Elab.async false
set_option linter.all false
set_option maxRecDepth 100000
set_option maxHeartbeats 4000000
namespace L2
open PySem PySem.Spec PyProof.Rows
/-- not x, x any value that has a truth -/
theorem pe_notT {X : Cx} {a : Expr} {ta : TE} {pos : Pos} (ha : PE X a ta) : PE X (.UnaryOp .Not a pos) (fun σ H Q => ta σ H fun x H' => ∃ k, TruV X.K x H' k ∧ Q (.bl (!k)) H') := by
  intro pins s σ H Q I h
  refine UnaryOp_ (thn (ha pins s σ H _ I h) fun v s1 ⟨x, H1, I1, r1, k, tr, q1⟩ => ?_)
  exact not_of (thn (tru_ok pins s1 σ H1 x v _ I1 r1 ⟨k, tr, q1⟩) fun b s2 ⟨H2, I2, q2⟩ => ⟨.bl (!b), H2, I2, rfl, q2⟩)
theorem Same.upd {H H1 : Hp} {p : Addr} {o : HO} (a : Same H H1) (h : H p = none) : Same H (L2.upd H1 p o) := fun b u q => by
  rw [upd_ne (ne_of_none q h)]; exact a b u q
end L2
namespace Put
open PySem L2
def top (i : Nat) : Stmt := PySem.Challenge.pw_putsigns_k10_refused_by_worths.main.body.getD i (.Pass ⟨0, 0, 0, 0⟩)
/-! ### ways as data -/
inductive Sg where
  | plus | minus | times
  deriving DecidableEq
def Sg.str : Sg → Str
  | .plus => "+"
  | .minus => "-"
  | .times => "*"
inductive Wy where
  | num (i : Int)
  | node (g : Sg) (l r : Wy)
  deriving DecidableEq
def Wy.size : Wy → Nat
  | .num _ => 1
  | .node _ l r => l.size + r.size
def Wy.knots : Wy → Nat
  | .num _ => 1
  | .node _ l r => l.knots + r.knots + 1
theorem Wy.size_pos : ∀ w : Wy, 1 ≤ w.size
  | .num _ => Nat.le_refl _
  | .node _ l r => by have := l.size_pos; show 1 ≤ l.size + r.size; omega
def WyIn (H : Hp) : Wy → V → Prop
  | .num i, v => v = .int i
  | .node g l r, v => ∃ a vl vr, v = .ref a ∧ H a = some (.tup [.str g.str, vl, vr]) ∧ WyIn H l vl ∧ WyIn H r vr
def Tups (H H' : Hp) : Prop := ∀ b xs, H b = some (.tup xs) → H' b = some (.tup xs)
theorem Tups.of {H H' : Hp} (a : Same H H') : Tups H H' := fun b xs h => a b _ h
theorem Tups.but {H H' : Hp} {w : Addr} {xs : List V} (a : But w H H') (h : H w = some (.lst xs)) : Tups H H' := fun b ys q => a b _ (fun e => by rw [e, h] at q; cases q) q
theorem Tups.trans {H H1 H2 : Hp} (a : Tups H H1) (b : Tups H1 H2) : Tups H H2 := fun c xs h => b c xs (a c xs h)
theorem WyIn.mono {H H' : Hp} (t : Tups H H') : ∀ {w : Wy} {v : V}, WyIn H w v → WyIn H' w v
  | .num _, _, h => h
  | .node g l r, v, h => by
    obtain ⟨a, vl, vr, e, h1, h2, h3⟩ := h
    exact ⟨a, vl, vr, e, t _ _ h1, WyIn.mono t h2, WyIn.mono t h3⟩
/-- the values of a stack of ways -/
def WyAll (H : Hp) (ws : List Wy) (vs : List V) : Prop := Paired (fun w v => WyIn H w v) ws vs
def sizes (ws : List Wy) : Nat := (ws.map Wy.size).sum
def knotss (ws : List Wy) : Nat := (ws.map Wy.knots).sum
/-! ### what stands behind the top -/
structure Bu (K : PySem.W.Frag) (mg : Str → Option Value) : Prop where
  ilen : mg "len" = none
  iisinstance : mg "isinstance" = none
  iint : mg "int" = none
  ibool : mg "bool" = none
  istr : mg "str" = none
  ituple : mg "tuple" = none
  ilist : mg "list" = none
  isorted : mg "sorted" = none
  irange : mg "range" = none
  irepr : mg "repr" = none
  ienumerate : mg "enumerate" = none
  isum : mg "sum" = none
  iall : mg "all" = none
  imin : mg "min" = none
  imax : mg "max" = none
  iabs : mg "abs" = none
  idivmod : mg "divmod" = none
  idict : mg "dict" = none
  iset : mg "set" = none
structure Co (K : PySem.W.Frag) (mg : Str → Option Value) (tk : Tok) (aS : Addr) : Prop where
  gMOST_NUMBERS : mg "MOST_NUMBERS" = some (.int 9 tk)
  gSIGNS : mg "SIGNS" = some (.ref aS)
  sSIGNS : ∀ H, SqT K H aS [.str "+", .str "-", .str "*"]
section
variable {P : Program} {w : World} {K : PySem.W.Frag} {mg : Str → Option Value} {base : Heap} {f : Addr} {fd : FuncData}
/-! ### is_whole, is_sign -/
def spWhole (K : PySem.W.Frag) : Sp := fun vs H Q _ => ∃ x n, vs = [x] ∧ TyOf K H x (.type n) ∧ Q (.bl (decide (n = "int"))) H
abbrev s_is_whole : Stmt := top 16
theorem sc_is_whole : FnScope ["thing"] ["thing"] (defScope s_is_whole) := ⟨rfl, rfl, rfl, by decide +kernel, rfl, by decide +kernel, by decide +kernel⟩
theorem ok_is_whole (F : Fun K "is_whole" "is_whole" s_is_whole f fd) (B : Bu K mg) : FnOk P w K mg base CX0 1 f fd ["thing"] (spWhole K) := by
  refine F.ok sc_is_whole (fun vs H Q E h => ?_) (fun cdv A outer s H vs Q E hr h => ?_)
  · obtain ⟨x, n, rfl, _⟩ := h
    rfl
  obtain ⟨x, n, rfl, ty, q⟩ := h
  refine ⟨_, (@pss_one _ _ _ (@ps_ret _ _ _ _ (@pe_and _ _ _ _ _ _ _ (@pe_callB _ _ _ _ _ _ _ _ _ (@call_isinst _ ("int")) rfl B.iisinstance PyProof.Rows.boot_isinstance (@pa_cons _ _ _ _ _ (@pv _ 0 _ _ (by rfl) (by first | exact Or.inl rfl | exact Or.inr ( Or.inl rfl ) | exact Or.inr ( Or.inr rfl )) (by decide) (by decide)) (@pa_cons _ _ _ _ _ (@pe_bltn _ _ (.ty "int") _ _ rfl B.iint PyProof.Rows.boot_int rfl (by decide) (by decide)) pa_nil (by rfl)) (by rfl)) (by decide) (by decide) (by rfl) (by rfl)) (@pe_one _ _ _ _ _ (@pe_not _ _ _ _ (@pe_callB _ _ _ _ _ _ _ _ _ (@call_isinst _ ("bool")) rfl B.iisinstance PyProof.Rows.boot_isinstance (@pa_cons _ _ _ _ _ (@pv _ 0 _ _ (by rfl) (by first | exact Or.inl rfl | exact Or.inr ( Or.inl rfl ) | exact Or.inr ( Or.inr rfl )) (by decide) (by decide)) (@pa_cons _ _ _ _ _ (@pe_bltn _ _ (.ty "bool") _ _ rfl B.ibool PyProof.Rows.boot_bool rfl (by decide) (by decide)) pa_nil (by rfl)) (by rfl)) (by decide) (by decide) (by rfl) (by rfl))))))), ?_⟩
  cases ty with
  | non => exact ⟨_, rfl, _, _, false, rfl, .non, rfl, false, rfl, iteF q⟩
  | bl y => exact ⟨_, rfl, _, _, true, rfl, .bl y, rfl, true, rfl, iteT ⟨_, rfl, _, _, true, rfl, .bl y, rfl, true, rfl, q⟩⟩
  | int i => exact ⟨_, rfl, _, _, true, rfl, .int i, rfl, true, rfl, iteT ⟨_, rfl, _, _, false, rfl, .int i, rfl, false, rfl, q⟩⟩
  | str y => exact ⟨_, rfl, _, _, false, rfl, .str y, rfl, false, rfl, iteF q⟩
  | flt y => exact ⟨_, rfl, _, _, false, rfl, .flt y, rfl, false, rfl, iteF q⟩
  | lst e => exact ⟨_, rfl, _, _, false, rfl, .lst e, rfl, false, rfl, iteF q⟩
  | frz e => exact ⟨_, rfl, _, _, false, rfl, .frz e, rfl, false, rfl, iteF q⟩
  | tup e => exact ⟨_, rfl, _, _, false, rfl, .tup e, rfl, false, rfl, iteF q⟩
  | dK e => exact ⟨_, rfl, _, _, false, rfl, .dK e, rfl, false, rfl, iteF q⟩
  | dT e => exact ⟨_, rfl, _, _, false, rfl, .dT e, rfl, false, rfl, iteF q⟩
def isSg (z : Str) : Bool := inV (.str z) [.str "+", .str "-", .str "*"]
def spSign : Sp := fun vs H Q _ => ∃ z, vs = [.str z] ∧ Q (.bl (isSg z)) H
abbrev s_is_sign : Stmt := top 17
theorem sc_is_sign : FnScope ["thing"] ["thing"] (defScope s_is_sign) := ⟨rfl, rfl, rfl, by decide +kernel, rfl, by decide +kernel, by decide +kernel⟩
theorem ok_is_sign {tk : Tok} {aS : Addr} (F : Fun K "is_sign" "is_sign" s_is_sign f fd) (B : Bu K mg) (B' : Co K mg tk aS) : FnOk P w K mg base CX0 1 f fd ["thing"] spSign := by
  refine F.ok sc_is_sign (fun vs H Q E h => ?_) (fun cdv A outer s H vs Q E hr h => ?_)
  · obtain ⟨x, rfl, _⟩ := h
    rfl
  obtain ⟨z, rfl, q⟩ := h
  refine ⟨_, (pss_one (ps_ret (pe_and (pe_callB (call_isinst (n := "str")) rfl B.iisinstance PyProof.Rows.boot_isinstance (pa_cons (pv 0) (pa_cons (pe_bltn (v := .ty "str") rfl B.istr PyProof.Rows.boot_str rfl) pa_nil))) (pe_one (pe_cmpR op_in_seq (pv 0) (pe_glob (v := .ref aS) rfl B'.gSIGNS rfl) (by with_unfolding_all rfl)))))), ?_⟩
  exact ⟨_, rfl, _, _, true, rfl, .str z, rfl, true, rfl, iteT ⟨_, rfl, aS, _, rfl, .inr (B'.sSIGNS H), rfl, rfl, q⟩⟩
end
end Put

set_option Elab.async false
set_option linter.all false
set_option maxRecDepth 100000
set_option maxHeartbeats 4000000
namespace Put
open PySem L2
section
variable {P : Program} {w : World} {K : PySem.W.Frag} {mg : Str → Option Value} {base : Heap} {f : Addr} {fd : FuncData}
theorem last_at {α : Type} (xs : List α) (x : α) : (xs ++ [x])[(xs ++ [x]).length - 1]? = some x := by simp
theorem trunc (xs : List V) (x : V) : (xs ++ [x]).dropLast = xs := by simp
theorem le_line {n : Nat} (h : n ≤ 1000) : n ≤ sizeLine := Nat.le_of_lt (small1000 h)
/-! ### is_way of a way -/
def spIsWay : Sp := fun vs H Q _ => ∃ w v, vs = [v] ∧ WyIn H w v ∧ w.size ≤ 9 ∧ ∀ H', Same H H' → Q (.bl true) H'
abbrev s_is_way : Stmt := top 18
theorem sc_is_way : FnScope ["thing", "waiting", "numbers", "part"] ["thing"] (defScope s_is_way) := ⟨rfl, rfl, rfl, by decide +kernel, rfl, by decide +kernel, by decide +kernel⟩
def spNeedWay : Sp := fun vs H Q _ => ∃ w v, vs = [v] ∧ WyIn H w v ∧ w.size ≤ 9 ∧ ∀ H', Same H H' → Q .non H'
/-! ### the numbers -/
def Wy.nums : Wy → List Int
  | .num i => [i]
  | .node _ l r => l.nums ++ r.nums
theorem Wy.nums_len : ∀ w : Wy, w.nums.length = w.size
  | .num _ => rfl
  | .node _ l r => by show (l.nums ++ r.nums).length = l.size + r.size; rw [List.length_append, l.nums_len, r.nums_len]
def Wy.deep : Wy → Nat
  | .num _ => 1
  | .node _ l r => max l.deep r.deep + 1
theorem Wy.deep_le : ∀ w : Wy, w.deep ≤ w.size
  | .num _ => Nat.le_refl _
  | .node _ l r => by have a := l.deep_le; have b := r.deep_le; have c := l.size_pos; have d := r.size_pos; show max l.deep r.deep + 1 ≤ l.size + r.size; omega
def spNums (n : Nat) : Sp := fun vs H Q _ => ∃ w v, vs = [v] ∧ WyIn H w v ∧ w.size ≤ 20 ∧ w.deep ≤ n ∧ ∀ p H', Same H H' → H p = none → H' p = some (.lst (w.nums.map V.int)) → Q (.ref p) H'
abbrev s_list_numbers : Stmt := top 21
theorem sc_list_numbers : FnScope ["way", "sign", "left", "right"] ["way"] (defScope s_list_numbers) := ⟨rfl, rfl, rfl, by decide +kernel, rfl, by decide +kernel, by decide +kernel⟩
theorem ok_list_numbers (F : Fun K "list_numbers" "list_numbers" s_list_numbers f fd) (bF : Binds K fd ["way"] []) (mF : mg "list_numbers" = some (.ref f)) (C_is_whole : Cal P w K mg base "is_whole" 1 ["thing"] (spWhole K)) :
    ∀ n, FnOk P w K mg base CX0 (n + 1) f fd ["way"] (spNums n) := by
  intro n
  induction n with
  | zero =>
    refine ⟨fun vs H Q E h => ?_, fun A outer s H args us vs Q E _ _ _ _ h => ?_⟩
    · obtain ⟨x, v, rfl, _⟩ := h
      rfl
    · obtain ⟨wy, v, _, _, _, hd, _⟩ := h
      cases wy <;> exact absurd hd (by simp [Wy.deep])
  | succ n ih =>
    have C_list_numbers : Cal P w K mg base "list_numbers" (n + 1) ["way"] (spNums n) := ⟨f, fd, ih, bF, F.kp, mF⟩
    refine F.ok sc_list_numbers (fun vs H Q E h => ?_) (fun cdv A outer s H vs Q E hr h => ?_)
    · obtain ⟨x, v, rfl, _⟩ := h
      rfl
    obtain ⟨wy, v, rfl, hw, h20, hd, q⟩ := h
    refine ⟨_, (@pss_cons _ _ _ _ _ (@ps_if _ _ _ _ _ _ _ _ (@pt_val _ _ _ (@pe_cal _ _ _ _ _ _ _ _ _ _ _ C_is_whole hr (by omega) rfl (@pa_cons _ _ _ _ _ (@pv _ 0 _ _ (by rfl) (by first | exact Or.inl rfl | exact Or.inr ( Or.inl rfl ) | exact Or.inr ( Or.inr rfl )) (by decide) (by decide)) pa_nil (by rfl)) (by decide) (by rfl) (by rfl)) (by intro _; rfl)) (@pss_one _ _ _ (@ps_ret _ _ _ _ (@pe_lst _ _ _ _ (@pa_cons _ _ _ _ _ (@pv _ 0 _ _ (by rfl) (by first | exact Or.inl rfl | exact Or.inr ( Or.inl rfl ) | exact Or.inr ( Or.inr rfl )) (by decide) (by decide)) pa_nil (by rfl))))) pss_nil) (@pss_cons _ _ _ _ _ (@ps_asg _ _ _ _ _ _ (@pv _ 0 _ _ (by rfl) (by first | exact Or.inl rfl | exact Or.inr ( Or.inl rfl ) | exact Or.inr ( Or.inr rfl )) (by decide) (by decide)) (@pg_tup _ _ _ _ _ _ rfl (@pgs_cons _ _ _ _ _ (@pg_name _ _ (1) _ (sc_list_numbers).nd rfl (Or.inl rfl) (by first | exact .inl rfl | exact .inr rfl | assumption)) (@pgs_cons _ _ _ _ _ (@pg_name _ _ (2) _ (sc_list_numbers).nd rfl (Or.inl rfl) (by first | exact .inl rfl | exact .inr rfl | assumption)) (@pgs_cons _ _ _ _ _ (@pg_name _ _ (3) _ (sc_list_numbers).nd rfl (Or.inl rfl) (by first | exact .inl rfl | exact .inr rfl | assumption)) pgs_nil (by rfl)) (by rfl)) (by rfl)) (by rfl) (by rfl)) (by rfl) (by rfl) (by rfl)) (@pss_one _ _ _ (@ps_ret _ _ _ _ (@pe_op _ _ _ _ _ _ _ _ op_cat (@pe_cal _ _ _ _ _ _ _ _ _ _ _ C_list_numbers hr (by omega) rfl (@pa_cons _ _ _ _ _ (@pv _ 2 _ _ (by rfl) (by first | exact Or.inl rfl | exact Or.inr ( Or.inl rfl ) | exact Or.inr ( Or.inr rfl )) (by decide) (by decide)) pa_nil (by rfl)) (by decide) (by rfl) (by rfl)) (@pe_cal _ _ _ _ _ _ _ _ _ _ _ C_list_numbers hr (by omega) rfl (@pa_cons _ _ _ _ _ (@pv _ 3 _ _ (by rfl) (by first | exact Or.inl rfl | exact Or.inr ( Or.inl rfl ) | exact Or.inr ( Or.inr rfl )) (by decide) (by decide)) pa_nil (by rfl)) (by decide) (by rfl) (by rfl))))))), ?_⟩
    cases wy with
    | num i =>
      cases hw
      refine ⟨_, rfl, _, "int", rfl, .int i, true, rfl, iteT ⟨_, rfl, (by show 1 ≤ sizeLine; decide), fun p hp => ?_⟩⟩
      exact q p _ (Same.new hp _) hp upd_same
    | node g l r =>
      obtain ⟨a, vl, vr, rfl, ha, hl, hr'⟩ := hw
      refine ⟨_, rfl, _, "tuple", rfl, .tup ha, false, rfl, iteF ?_⟩
      have d : max l.deep r.deep + 1 ≤ n + 1 := hd
      have z : l.size + r.size ≤ 20 := h20
      have zl := l.size_pos; have zr := r.size_pos
      refine ⟨_, rfl, a, _, rfl, SqT.of ha, rfl, _, _, rfl, _, _, rfl, _, _, rfl, rfl, ?_⟩
      refine ⟨_, rfl, l, vl, rfl, hl, by omega, by omega, fun p H1 g1 n1 e1 => ?_⟩
      refine ⟨_, rfl, r, vr, rfl, hr'.mono (Tups.of g1), by omega, by omega, fun p2 H2 g2 n2 e2 => ?_⟩
      refine ⟨p, p2, _, _, rfl, rfl, g2 _ _ e1, e2, le_line (by rw [List.length_map, List.length_map, l.nums_len, r.nums_len]; omega), fun p3 n3 => ?_⟩
      refine q p3 _ ((g1.trans g2).trans (Same.new n3 _)) ((g1.trans g2).free n3) ?_
      rw [upd_same]
      show some (HO.lst (l.nums.map V.int ++ r.nums.map V.int)) = some (HO.lst ((l.nums ++ r.nums).map V.int))
      rw [List.map_append]
def spNumbersOf : Sp := fun vs H Q _ => ∃ w v, vs = [v] ∧ WyIn H w v ∧ w.size ≤ 9 ∧ ∀ p H', Same H H' → H p = none → H' p = some (.lst (w.nums.map V.int)) → Q (.ref p) H'
/-! ### the signs -/
def Wy.sgs : Wy → List Sg
  | .num _ => []
  | .node g l r => l.sgs ++ g :: r.sgs
def sgText : List Sg → Str
  | [] => ""
  | g :: r => g.str ++ sgText r
theorem sg_len (g : Sg) : g.str.length = 1 := by cases g <;> rfl
theorem str_len (x y : Str) : (x ++ y).length = x.length + y.length := by
  cases x; cases y
  show (_ ++ _ : Array Nat).size = _
  rw [Array.size_append]; rfl
theorem sgText_len : ∀ xs : List Sg, (sgText xs).length = xs.length
  | [] => rfl
  | g :: r => by show (g.str ++ sgText r).length = r.length + 1; rw [str_len, sg_len, sgText_len r]; omega
def spSgs (n : Nat) : Sp := fun vs H Q _ => ∃ w v, vs = [v] ∧ WyIn H w v ∧ w.size ≤ 20 ∧ w.deep ≤ n ∧ ∀ H', Same H H' → Q (.str (sgText w.sgs)) H'
def spSignsOf : Sp := fun vs H Q _ => ∃ w v, vs = [v] ∧ WyIn H w v ∧ w.size ≤ 9 ∧ ∀ H', Same H H' → Q (.str (sgText w.sgs)) H'
end
end Put

set_option Elab.async false
set_option linter.all false
set_option maxRecDepth 100000
set_option maxHeartbeats 4000000
namespace Put
open PySem L2
/-! ### the well of draws: at w a list of three ints, the third at most M -/
def Wel (H : Hp) (w : Addr) (M : Int) : Prop := ∃ a b c, H w = some (.lst [.int a, .int b, .int c]) ∧ 0 ≤ c ∧ c ≤ M
theorem Wel.keep {H H' : Hp} {w : Addr} {M M' : Int} (h : Wel H w M) (s : Same H H') (m : M ≤ M') : Wel H' w M' := by
  obtain ⟨a, b, c, e, h0, h1⟩ := h
  exact ⟨a, b, c, s _ _ e, h0, by omega⟩
theorem Wel.more {H : Hp} {w : Addr} {M M' : Int} (h : Wel H w M) (m : M ≤ M') : Wel H w M' := h.keep (Same.refl H) m
theorem But.free {w p : Addr} {H H' : Hp} {M : Int} (b : But w H H') (h : Wel H' w M) (n : H' p = none) : H p = none := by
  cases q : H p with
  | none => rfl
  | some o =>
    by_cases e : p = w
    · subst e
      obtain ⟨_, _, _, z, _⟩ := h
      rw [z] at n; cases n
    · rw [b p o e q] at n; cases n
theorem Wel.ne {w p : Addr} {H : Hp} {M : Int} (h : Wel H w M) (n : H p = none) : p ≠ w := fun e => by
  subst e
  obtain ⟨_, _, _, z, _⟩ := h
  rw [z] at n; cases n
theorem Wel.tups {w : Addr} {H H' : Hp} {M : Int} (h : Wel H w M) (b : But w H H') : Tups H H' := by
  obtain ⟨_, _, _, z, _⟩ := h
  exact Tups.but b z
section
variable {P : Program} {w : World} {K : PySem.W.Frag} {mg : Str → Option Value} {base : Heap} {f : Addr} {fd : FuncData}
/-! ### _law_mixed -/
theorem mod_b (x m : Int) (h : 0 < m) : 0 ≤ x % m ∧ x % m < m := ⟨Int.emod_nonneg x (by omega), Int.emod_lt_of_pos x h⟩
def spMixed : Sp := fun vs H Q _ => ∃ cell k, vs = [.int cell, .int k] ∧ 0 ≤ k ∧ k ≤ 1000000000 ∧ ∀ r, 0 ≤ r → Q (.int r) H
abbrev s__law_mixed : Stmt := top 34
theorem sc__law_mixed : FnScope ["cell", "k", "number"] ["cell", "k"] (defScope s__law_mixed) := ⟨rfl, rfl, rfl, by decide +kernel, rfl, by decide +kernel, by decide +kernel⟩
theorem ok_mixed (F : Fun K "_law_mixed" "_law_mixed" s__law_mixed f fd) : FnOk P w K mg base CX0 1 f fd ["cell", "k"] spMixed := by
  refine F.ok sc__law_mixed (fun vs H Q E h => ?_) (fun cdv A outer s H vs Q E hr h => ?_)
  · obtain ⟨x, v, rfl, _⟩ := h
    rfl
  obtain ⟨cell, k, rfl, h0, h1, q⟩ := h
  refine ⟨_, (@pss_cons _ _ _ _ _ (@ps_set _ _ (2) _ _ _ _ (sc__law_mixed).nd rfl (Or.inl rfl) (@pe_op _ _ _ _ _ _ _ _ op_mod (@pe_op _ _ _ _ _ _ _ _ op_add (@pe_op _ _ _ _ _ _ _ _ op_add (@pe_op _ _ _ _ _ _ _ _ op_mod (@pv _ 0 _ _ (by rfl) (by first | exact Or.inl rfl | exact Or.inr ( Or.inl rfl ) | exact Or.inr ( Or.inr rfl )) (by decide) (by decide)) pe_int) (@pe_op _ _ _ _ _ _ _ _ op_mul (@pe_op _ _ _ _ _ _ _ _ op_mul pe_int (@pv _ 1 _ _ (by rfl) (by first | exact Or.inl rfl | exact Or.inr ( Or.inl rfl ) | exact Or.inr ( Or.inr rfl )) (by decide) (by decide))) (@pv _ 1 _ _ (by rfl) (by first | exact Or.inl rfl | exact Or.inr ( Or.inl rfl ) | exact Or.inr ( Or.inr rfl )) (by decide) (by decide)))) (@pe_op _ _ _ _ _ _ _ _ op_mul pe_int (@pv _ 1 _ _ (by rfl) (by first | exact Or.inl rfl | exact Or.inr ( Or.inl rfl ) | exact Or.inr ( Or.inr rfl )) (by decide) (by decide)))) pe_int) (by rfl) (by first | exact .inl rfl | exact .inr rfl | assumption)) (@pss_cons _ _ _ _ _ (@ps_set _ _ (2) _ _ _ _ (sc__law_mixed).nd rfl (Or.inl rfl) (@pe_op _ _ _ _ _ _ _ _ op_mod (@pe_op _ _ _ _ _ _ _ _ op_mul (@pv _ 2 _ _ (by rfl) (by first | exact Or.inl rfl | exact Or.inr ( Or.inl rfl ) | exact Or.inr ( Or.inr rfl )) (by decide) (by decide)) (@pv _ 2 _ _ (by rfl) (by first | exact Or.inl rfl | exact Or.inr ( Or.inl rfl ) | exact Or.inr ( Or.inr rfl )) (by decide) (by decide))) pe_int) (by rfl) (by first | exact .inl rfl | exact .inr rfl | assumption)) (@pss_one _ _ _ (@ps_ret _ _ _ _ (@pe_op _ _ _ _ _ _ _ _ op_fdivB (@pe_op _ _ _ _ _ _ _ _ op_mod (@pe_op _ _ _ _ _ _ _ _ op_mul (@pv _ 2 _ _ (by rfl) (by first | exact Or.inl rfl | exact Or.inr ( Or.inl rfl ) | exact Or.inr ( Or.inr rfl )) (by decide) (by decide)) (@pe_op _ _ _ _ _ _ _ _ op_add (@pv _ 2 _ _ (by rfl) (by first | exact Or.inl rfl | exact Or.inr ( Or.inl rfl ) | exact Or.inr ( Or.inr rfl )) (by decide) (by decide)) pe_int)) pe_int) pe_int))))), ?_⟩
  refine ⟨_, rfl, _, _, rfl, rfl, (show (0 : Int) < 2147483629 by decide), _, rfl, _, _, rfl, rfl, .inl ⟨by decide, by decide⟩, _, rfl, _, _, rfl, rfl, .inr ⟨by omega, by omega⟩, _, _, rfl, rfl, _, rfl, _, _, rfl, rfl, .inl ⟨by decide, by decide⟩,
    _, _, rfl, rfl, _, _, rfl, rfl, (show (0 : Int) < 2147483629 by decide), ?_⟩
  have hb := mod_b (cell % 2147483629 + 1000003 * k * k + 7919 * k) 2147483629 (by decide)
  revert hb
  generalize (cell % 2147483629 + 1000003 * k * k + 7919 * k) % 2147483629 = n1
  intro hb
  refine ⟨_, rfl, _, rfl, _, _, rfl, rfl, .inl ⟨by omega, by omega⟩, _, _, rfl, rfl, (show (0 : Int) < 2147483587 by decide), ?_⟩
  have hc := mod_b (n1 * n1) 2147483587 (by decide)
  revert hc
  generalize n1 * n1 % 2147483587 = n2
  intro hc
  refine ⟨_, rfl, _, rfl, _, _, rfl, rfl, _, _, rfl, rfl, .inl ⟨by omega, by omega⟩, _, _, rfl, rfl, (show (0 : Int) < 2147483563 by decide), _, _, rfl, rfl, ⟨by decide, by decide⟩, ?_⟩
  have hd := mod_b (n2 * (n2 + 40961)) 2147483563 (by decide)
  exact q _ (by omega)
/-! ### _law_well -/
def spWell : Sp := fun vs H Q _ => ∃ cell, vs = [.int cell] ∧ ∀ p a b H', Same H H' → H p = none → H' p = some (.lst [.int a, .int b, .int 0]) → Q (.ref p) H'
abbrev s__law_well : Stmt := top 35
theorem sc__law_well : FnScope ["cell"] ["cell"] (defScope s__law_well) := ⟨rfl, rfl, rfl, by decide +kernel, rfl, by decide +kernel, by decide +kernel⟩
theorem ok_well (F : Fun K "_law_well" "_law_well" s__law_well f fd) (B : Bu K mg) : FnOk P w K mg base CX0 1 f fd ["cell"] spWell := by
  refine F.ok sc__law_well (fun vs H Q E h => ?_) (fun cdv A outer s H vs Q E hr h => ?_)
  · obtain ⟨x, rfl, _⟩ := h
    rfl
  obtain ⟨cell, rfl, q⟩ := h
  refine ⟨_, (@pss_one _ _ _ (@ps_ret _ _ _ _ (@pe_lst _ _ _ _ (@pa_cons _ _ _ _ _ (@pe_op _ _ _ _ _ _ _ _ op_mul (@pv _ 0 _ _ (by rfl) (by first | exact Or.inl rfl | exact Or.inr ( Or.inl rfl ) | exact Or.inr ( Or.inr rfl )) (by decide) (by decide)) (@pe_callTy _ _ _ _ _ _ _ _ _ call_int1 rfl B.iint PyProof.Rows.boot_int (@pa_cons _ _ _ _ _ (@pe_cmpR _ _ _ _ _ _ _ _ op_ge (@pv _ 0 _ _ (by rfl) (by first | exact Or.inl rfl | exact Or.inr ( Or.inl rfl ) | exact Or.inr ( Or.inr rfl )) (by decide) (by decide)) (@pe_op _ _ _ _ _ _ _ _ op_pow pe_int pe_int) (nomark _)) pa_nil (by rfl)) (by decide) (by decide) (by rfl) (by rfl))) (@pa_cons _ _ _ _ _ (@pv _ 0 _ _ (by rfl) (by first | exact Or.inl rfl | exact Or.inr ( Or.inl rfl ) | exact Or.inr ( Or.inr rfl )) (by decide) (by decide)) (@pa_cons _ _ _ _ _ pe_int pa_nil (by rfl)) (by rfl)) (by rfl))))), ?_⟩
  refine ⟨_, rfl, _, rfl, _, _, rfl, rfl, ⟨by decide, by decide, by decide⟩, _, _, rfl, rfl, .inr ⟨_, rfl, _, _, rfl, rfl, .inr ?_, _, rfl, (by show 3 ≤ sizeLine; decide), fun p hp => q p _ _ _ (Same.new hp _) hp upd_same⟩⟩
  constructor <;> split <;> decide
/-! ### _law_draw -/
def spDraw : Sp := fun vs H Q _ => ∃ w m M, vs = [.ref w, .int m] ∧ 0 < m ∧ m < 2 ^ 63 ∧ Wel H w M ∧ M < 1000000000 ∧ ∀ r H', 0 ≤ r → r < m → But w H H' → Wel H' w (M + 1) → Q (.int r) H'
abbrev s__law_draw : Stmt := top 36
theorem sc__law_draw : FnScope ["well", "many", "got"] ["well", "many"] (defScope s__law_draw) := ⟨rfl, rfl, rfl, by decide +kernel, rfl, by decide +kernel, by decide +kernel⟩
theorem ok_draw (F : Fun K "_law_draw" "_law_draw" s__law_draw f fd) (C__law_mixed : Cal P w K mg base "_law_mixed" 1 ["cell", "k"] spMixed) : FnOk P w K mg base CX0 2 f fd ["well", "many"] spDraw := by
  refine F.ok sc__law_draw (fun vs H Q E h => ?_) (fun cdv A outer s H vs Q E hr h => ?_)
  · obtain ⟨x, m, M, rfl, _⟩ := h
    rfl
  obtain ⟨wl, m, M, rfl, h0, h1, ⟨a, b, c, e, c0, c1⟩, hM, q⟩ := h
  refine ⟨_, (@pss_cons _ _ _ _ _ (@ps_if _ _ _ _ _ _ _ _ (@pt_cmpR _ _ _ _ _ _ _ _ op_gt (@pe_ix _ _ _ _ _ _ _ ix_list (@pv _ 0 _ _ (by rfl) (by first | exact Or.inl rfl | exact Or.inr ( Or.inl rfl ) | exact Or.inr ( Or.inr rfl )) (by decide) (by decide)) pe_int (fun _ _ => rfl)) pe_int (nomark _)) (@pss_cons _ _ _ _ _ (@ps_set _ _ (2) _ _ _ _ (sc__law_draw).nd rfl (Or.inl rfl) (@pe_op _ _ _ _ _ _ _ _ op_mod (@pe_ix _ _ _ _ _ _ _ ix_list (@pv _ 0 _ _ (by rfl) (by first | exact Or.inl rfl | exact Or.inr ( Or.inl rfl ) | exact Or.inr ( Or.inr rfl )) (by decide) (by decide)) pe_int (fun _ _ => rfl)) (@pv _ 1 _ _ (by rfl) (by first | exact Or.inl rfl | exact Or.inr ( Or.inl rfl ) | exact Or.inr ( Or.inr rfl )) (by decide) (by decide))) (by rfl) (by first | exact .inl rfl | exact .inr rfl | assumption)) (@pss_cons _ _ _ _ _ (@ps_asg _ _ _ _ _ _ (@pe_op _ _ _ _ _ _ _ _ op_fdivB (@pe_ix _ _ _ _ _ _ _ ix_list (@pv _ 0 _ _ (by rfl) (by first | exact Or.inl rfl | exact Or.inr ( Or.inl rfl ) | exact Or.inr ( Or.inr rfl )) (by decide) (by decide)) pe_int (fun _ _ => rfl)) (@pv _ 1 _ _ (by rfl) (by first | exact Or.inl rfl | exact Or.inr ( Or.inl rfl ) | exact Or.inr ( Or.inr rfl )) (by decide) (by decide))) (@pg_sub _ _ _ _ _ _ _ (@pv _ 0 _ _ (by rfl) (by first | exact Or.inl rfl | exact Or.inr ( Or.inl rfl ) | exact Or.inr ( Or.inr rfl )) (by decide) (by decide)) pe_int set_list (by intro _; rfl)) (by rfl) (by rfl) (by rfl)) (@pss_one _ _ _ (@ps_ret _ _ _ _ (@pv _ 2 _ _ (by rfl) (by first | exact Or.inl rfl | exact Or.inr ( Or.inl rfl ) | exact Or.inr ( Or.inr rfl )) (by decide) (by decide)))))) pss_nil) (@pss_cons _ _ _ _ _ (@ps_asg _ _ _ _ _ _ (@pe_op _ _ _ _ _ _ _ _ op_add (@pe_ix _ _ _ _ _ _ _ ix_list (@pv _ 0 _ _ (by rfl) (by first | exact Or.inl rfl | exact Or.inr ( Or.inl rfl ) | exact Or.inr ( Or.inr rfl )) (by decide) (by decide)) pe_int (fun _ _ => rfl)) pe_int) (@pg_sub _ _ _ _ _ _ _ (@pv _ 0 _ _ (by rfl) (by first | exact Or.inl rfl | exact Or.inr ( Or.inl rfl ) | exact Or.inr ( Or.inr rfl )) (by decide) (by decide)) pe_int set_list (by intro _; rfl)) (by rfl) (by rfl) (by rfl)) (@pss_one _ _ _ (@ps_ret _ _ _ _ (@pe_op _ _ _ _ _ _ _ _ op_mod (@pe_cal _ _ _ _ _ _ _ _ _ _ _ C__law_mixed hr (by omega) rfl (@pa_cons _ _ _ _ _ (@pe_ix _ _ _ _ _ _ _ ix_list (@pv _ 0 _ _ (by rfl) (by first | exact Or.inl rfl | exact Or.inr ( Or.inl rfl ) | exact Or.inr ( Or.inr rfl )) (by decide) (by decide)) pe_int (fun _ _ => rfl)) (@pa_cons _ _ _ _ _ (@pe_ix _ _ _ _ _ _ _ ix_list (@pv _ 0 _ _ (by rfl) (by first | exact Or.inl rfl | exact Or.inr ( Or.inl rfl ) | exact Or.inr ( Or.inr rfl )) (by decide) (by decide)) pe_int (fun _ _ => rfl)) pa_nil (by rfl)) (by rfl)) (by decide) (by rfl) (by rfl)) (@pv _ 1 _ _ (by rfl) (by first | exact Or.inl rfl | exact Or.inr ( Or.inl rfl ) | exact Or.inr ( Or.inr rfl )) (by decide) (by decide))))))), ?_⟩
  refine ⟨_, rfl, wl, _, _, _, rfl, rfl, SqL.of e, rfl, _, _, rfl, rfl, _, rfl, ite2 (fun _ => ?_) (fun _ => ?_)⟩
  · refine ⟨_, rfl, wl, _, _, _, rfl, rfl, SqL.of e, rfl, _, rfl, _, _, rfl, rfl, h0, ?_⟩
    refine ⟨_, rfl, wl, _, _, _, rfl, rfl, SqL.of e, rfl, _, rfl, _, _, rfl, rfl, ⟨h0, by omega⟩, _, rfl, wl, _, _, 0, rfl, rfl, e, rfl, ?_⟩
    refine ⟨_, rfl, ?_⟩
    have z := mod_b a m h0
    exact q _ _ z.1 z.2 But.put ⟨_, _, _, upd_same, c0, by omega⟩
  · refine ⟨_, rfl, wl, _, _, _, rfl, rfl, SqL.of e, rfl, _, _, rfl, rfl, _, rfl, wl, _, _, 2, rfl, rfl, e, rfl, ?_⟩
    refine ⟨_, rfl, wl, _, _, _, rfl, rfl, SqL.of upd_same, rfl, _, rfl, wl, _, _, _, rfl, rfl, SqL.of upd_same, rfl, _, _, rfl, by omega, by omega, fun r hr0 => ?_⟩
    refine ⟨_, rfl, _, _, rfl, rfl, h0, ?_⟩
    have z := mod_b r m h0
    exact q _ _ z.1 z.2 But.put ⟨_, _, _, upd_same, by omega, by omega⟩
/-! ### _law_number -/
def spNumber : Sp := fun vs H Q _ => ∃ w M, vs = [.ref w] ∧ Wel H w M ∧ M < 999999000 ∧ ∀ i H', -1000000000000 < i → i < 1000000000000 → But w H H' → Wel H' w (M + 7) → Q (.int i) H'
theorem at6 {a b c d e f' : Int} {k : Int} (h0 : 0 ≤ k) (h1 : k < 6) (P : Int → Prop) (pa : P a) (pb : P b) (pc : P c) (pd : P d) (pe : P e) (pf : P f') : ∃ z, atI [V.int a, .int b, .int c, .int d, .int e, .int f'] k = some (.int z) ∧ P z := by
  have : k = 0 ∨ k = 1 ∨ k = 2 ∨ k = 3 ∨ k = 4 ∨ k = 5 := by omega
  rcases this with rfl | rfl | rfl | rfl | rfl | rfl
  · exact ⟨a, rfl, pa⟩
  · exact ⟨b, rfl, pb⟩
  · exact ⟨c, rfl, pc⟩
  · exact ⟨d, rfl, pd⟩
  · exact ⟨e, rfl, pe⟩
  · exact ⟨f', rfl, pf⟩
theorem at10 {k : Int} (h0 : 0 ≤ k) (h1 : k < 10) : ∃ z : Int, atI [V.int 0, .int 0, .int 0, .int 1, .int 1, .int 2, .int 2, .int 3, .int 4, .int 5] k = some (.int z) ∧ 0 ≤ z ∧ z < 6 := by
  have : k = 0 ∨ k = 1 ∨ k = 2 ∨ k = 3 ∨ k = 4 ∨ k = 5 ∨ k = 6 ∨ k = 7 ∨ k = 8 ∨ k = 9 := by omega
  rcases this with rfl | rfl | rfl | rfl | rfl | rfl | rfl | rfl | rfl | rfl <;> exact ⟨_, rfl, by decide, by decide⟩
abbrev s__law_number : Stmt := top 37
theorem sc__law_number : FnScope ["well", "some"] ["well"] (defScope s__law_number) := ⟨rfl, rfl, rfl, by decide +kernel, rfl, by decide +kernel, by decide +kernel⟩
theorem ok_number (F : Fun K "_law_number" "_law_number" s__law_number f fd) (C__law_draw : Cal P w K mg base "_law_draw" 2 ["well", "many"] spDraw) : FnOk P w K mg base CX0 3 f fd ["well"] spNumber := by
  refine F.ok sc__law_number (fun vs H Q E h => ?_) (fun cdv A outer s H vs Q E hr h => ?_)
  · obtain ⟨x, M, rfl, _⟩ := h
    rfl
  obtain ⟨wl, M, rfl, hw, hM, q⟩ := h
  refine ⟨_, (@pss_cons _ _ _ _ _ (@ps_set _ _ (1) _ _ _ _ (sc__law_number).nd rfl (Or.inl rfl) (@pe_lst _ _ _ _ (@pa_cons _ _ _ _ _ (@pe_cal _ _ _ _ _ _ _ _ _ _ _ C__law_draw hr (by omega) rfl (@pa_cons _ _ _ _ _ (@pv _ 0 _ _ (by rfl) (by first | exact Or.inl rfl | exact Or.inr ( Or.inl rfl ) | exact Or.inr ( Or.inr rfl )) (by decide) (by decide)) (@pa_cons _ _ _ _ _ pe_int pa_nil (by rfl)) (by rfl)) (by decide) (by rfl) (by rfl)) (@pa_cons _ _ _ _ _ (@pe_cal _ _ _ _ _ _ _ _ _ _ _ C__law_draw hr (by omega) rfl (@pa_cons _ _ _ _ _ (@pv _ 0 _ _ (by rfl) (by first | exact Or.inl rfl | exact Or.inr ( Or.inl rfl ) | exact Or.inr ( Or.inr rfl )) (by decide) (by decide)) (@pa_cons _ _ _ _ _ pe_int pa_nil (by rfl)) (by rfl)) (by decide) (by rfl) (by rfl)) (@pa_cons _ _ _ _ _ (@pe_op _ _ _ _ _ _ _ _ op_sub pe_int (@pe_cal _ _ _ _ _ _ _ _ _ _ _ C__law_draw hr (by omega) rfl (@pa_cons _ _ _ _ _ (@pv _ 0 _ _ (by rfl) (by first | exact Or.inl rfl | exact Or.inr ( Or.inl rfl ) | exact Or.inr ( Or.inr rfl )) (by decide) (by decide)) (@pa_cons _ _ _ _ _ pe_int pa_nil (by rfl)) (by rfl)) (by decide) (by rfl) (by rfl))) (@pa_cons _ _ _ _ _ (@pe_cal _ _ _ _ _ _ _ _ _ _ _ C__law_draw hr (by omega) rfl (@pa_cons _ _ _ _ _ (@pv _ 0 _ _ (by rfl) (by first | exact Or.inl rfl | exact Or.inr ( Or.inl rfl ) | exact Or.inr ( Or.inr rfl )) (by decide) (by decide)) (@pa_cons _ _ _ _ _ (@pe_op _ _ _ _ _ _ _ _ op_pow pe_int pe_int) pa_nil (by rfl)) (by rfl)) (by decide) (by rfl) (by rfl)) pa_nil (by rfl)) (by rfl)) (by rfl)) (by rfl))) (by rfl) (by first | exact .inl rfl | exact .inr rfl | assumption)) (@pss_cons _ _ _ _ _ (@ps_set _ _ (1) _ _ _ _ (sc__law_number).nd rfl (Or.inl rfl) (@pe_op _ _ _ _ _ _ _ _ op_cat (@pv _ 1 _ _ (by rfl) (by first | exact Or.inl rfl | exact Or.inr ( Or.inl rfl ) | exact Or.inr ( Or.inr rfl )) (by decide) (by decide)) (@pe_lst _ _ _ _ (@pa_cons _ _ _ _ _ (@pe_op _ _ _ _ _ _ _ _ op_sub pe_int (@pe_cal _ _ _ _ _ _ _ _ _ _ _ C__law_draw hr (by omega) rfl (@pa_cons _ _ _ _ _ (@pv _ 0 _ _ (by rfl) (by first | exact Or.inl rfl | exact Or.inr ( Or.inl rfl ) | exact Or.inr ( Or.inr rfl )) (by decide) (by decide)) (@pa_cons _ _ _ _ _ (@pe_op _ _ _ _ _ _ _ _ op_pow pe_int pe_int) pa_nil (by rfl)) (by rfl)) (by decide) (by rfl) (by rfl))) (@pa_cons _ _ _ _ _ (@pe_cal _ _ _ _ _ _ _ _ _ _ _ C__law_draw hr (by omega) rfl (@pa_cons _ _ _ _ _ (@pv _ 0 _ _ (by rfl) (by first | exact Or.inl rfl | exact Or.inr ( Or.inl rfl ) | exact Or.inr ( Or.inr rfl )) (by decide) (by decide)) (@pa_cons _ _ _ _ _ pe_int pa_nil (by rfl)) (by rfl)) (by decide) (by rfl) (by rfl)) pa_nil (by rfl)) (by rfl)))) (by rfl) (by first | exact .inl rfl | exact .inr rfl | assumption)) (@pss_one _ _ _ (@ps_ret _ _ _ _ (@pe_ix _ _ _ _ _ _ _ ix_list (@pv _ 1 _ _ (by rfl) (by first | exact Or.inl rfl | exact Or.inr ( Or.inl rfl ) | exact Or.inr ( Or.inr rfl )) (by decide) (by decide)) (@pe_ix _ _ _ _ _ _ _ ix_list (@pe_lst _ _ _ _ (@pa_cons _ _ _ _ _ pe_int (@pa_cons _ _ _ _ _ pe_int (@pa_cons _ _ _ _ _ pe_int (@pa_cons _ _ _ _ _ pe_int (@pa_cons _ _ _ _ _ pe_int (@pa_cons _ _ _ _ _ pe_int (@pa_cons _ _ _ _ _ pe_int (@pa_cons _ _ _ _ _ pe_int (@pa_cons _ _ _ _ _ pe_int (@pa_cons _ _ _ _ _ pe_int pa_nil (by rfl)) (by rfl)) (by rfl)) (by rfl)) (by rfl)) (by rfl)) (by rfl)) (by rfl)) (by rfl)) (by rfl))) (@pe_cal _ _ _ _ _ _ _ _ _ _ _ C__law_draw hr (by omega) rfl (@pa_cons _ _ _ _ _ (@pv _ 0 _ _ (by rfl) (by first | exact Or.inl rfl | exact Or.inr ( Or.inl rfl ) | exact Or.inr ( Or.inr rfl )) (by decide) (by decide)) (@pa_cons _ _ _ _ _ pe_int pa_nil (by rfl)) (by rfl)) (by decide) (by rfl) (by rfl)) (fun _ _ => rfl)) (fun _ _ => rfl)))))), ?_⟩
  refine ⟨_, rfl, wl, 10, M, rfl, by decide, by decide, hw, by omega, fun r1 H1 a1 b1 g1 w1 => ?_⟩
  refine ⟨_, rfl, wl, 4, _, rfl, by decide, by decide, w1, by omega, fun r2 H2 a2 b2 g2 w2 => ?_⟩
  refine ⟨_, rfl, wl, 10, _, rfl, by decide, by decide, w2, by omega, fun r3 H3 a3 b3 g3 w3 => ⟨_, _, rfl, rfl, ?_⟩⟩
  refine ⟨_, rfl, _, _, rfl, rfl, ⟨by decide, by decide, by decide⟩, wl, 1000000000000, _, rfl, by decide, by decide, w3, by omega, fun r4 H4 a4 b4 g4 w4 => ?_⟩
  refine ⟨(by show 4 ≤ sizeLine; decide), fun p1 n1 => ?_⟩
  have w4' : Wel (upd H4 p1 (.lst [.int r1, .int r2, .int (0 - r3), .int r4])) wl _ := w4.keep (Same.new n1 _) (Int.le_refl _)
  refine ⟨_, rfl, _, rfl, _, _, rfl, rfl, ⟨by decide, by decide, by decide⟩, wl, 1000000000000, _, rfl, by decide, by decide, w4', by omega, fun r5 H5 a5 b5 g5 w5 => ⟨_, _, rfl, rfl, ?_⟩⟩
  refine ⟨_, rfl, wl, 100, _, rfl, by decide, by decide, w5, by omega, fun r6 H6 a6 b6 g6 w6 => ?_⟩
  refine ⟨(by show 2 ≤ sizeLine; decide), fun p2 n2 => ?_⟩
  have ne1 : p1 ≠ wl := w4.ne n1
  have e1 : H6 p1 = some (.lst [.int r1, .int r2, .int (0 - r3), .int r4]) := g6 _ _ ne1 (g5 _ _ ne1 upd_same)
  have w6' : Wel (upd H6 p2 (.lst [.int (0 - r5), .int r6])) wl _ := w6.keep (Same.new n2 _) (Int.le_refl _)
  refine ⟨p1, p2, _, _, rfl, rfl, Same.new n2 _ _ _ e1, upd_same, (by show 6 ≤ sizeLine; decide), fun p3 n3 => ?_⟩
  have w7 := w6'.keep (Same.new n3 (.lst ([.int r1, .int r2, .int (0 - r3), .int r4] ++ [.int (0 - r5), .int r6]))) (Int.le_refl _)
  refine ⟨_, rfl, (by show 10 ≤ sizeLine; decide), fun p4 n4 => ?_⟩
  have w8 := w7.keep (Same.new n4 (.lst [.int 0, .int 0, .int 0, .int 1, .int 1, .int 2, .int 2, .int 3, .int 4, .int 5])) (Int.le_refl _)
  refine ⟨_, rfl, wl, 10, _, rfl, by decide, by decide, w8, by omega, fun r7 H7 a7 b7 g7 w9 => ?_⟩
  have ne3 : p3 ≠ wl := w6'.ne n3
  have ne4 : p4 ≠ wl := w7.ne n4
  obtain ⟨z, hz, z0, z1⟩ := at10 a7 b7
  refine ⟨p4, _, _, _, rfl, rfl, SqL.of (g7 _ _ ne4 upd_same), hz, ?_⟩
  obtain ⟨y, hy, y0, y1⟩ := at6 (a := r1) (b := r2) (c := 0 - r3) (d := r4) (e := 0 - r5) (f' := r6) z0 z1 (fun i => -1000000000000 < i ∧ i < 1000000000000) (by omega) (by omega) (by omega) (by omega) (by omega) (by omega)
  refine ⟨p3, _, _, _, rfl, rfl, SqL.of (g7 _ _ ne3 (Same.new n4 _ _ _ upd_same)), hy, ?_⟩
  refine q y H7 y0 y1 ?_ (w9.more (by omega))
  exact ((((((((((g1.trans g2).trans g3).trans g4).trans (But.new n1 _)).trans g5).trans g6).trans (But.new n2 _)).trans (But.new n3 _)).trans (But.new n4 _)).trans g7)
end
end Put

set_option Elab.async false
set_option linter.all false
set_option maxRecDepth 100000
set_option maxHeartbeats 4000000
namespace Put
open PySem L2
section
variable {P : Program} {w : World} {K : PySem.W.Frag} {mg : Str → Option Value} {base : Heap} {f : Addr} {fd : FuncData}
/-! ### _law_row -/
def Small (ns : List Int) : Prop := ∀ i ∈ ns, -1000000000000 < i ∧ i < 1000000000000
def spRow : Sp := fun vs H Q _ => ∃ w n M, vs = [.ref w, .int n] ∧ 0 ≤ n ∧ n ≤ 20 ∧ Wel H w M ∧ M < 999990000 ∧
  ∀ p ns H', But w H H' → Wel H' w (M + 200) → H p = none → H' p = some (.lst (ns.map V.int)) → (ns.length : Int) = n → Small ns → Q (.ref p) H'
abbrev s__law_row : Stmt := top 38
theorem sc__law_row : FnScope ["well", "many"] ["well", "many"] (defScope s__law_row) := ⟨rfl, rfl, rfl, by decide +kernel, rfl, by decide +kernel, by decide +kernel⟩
theorem rep_one (i : Int) (k : Nat) : (List.replicate k [V.int i]).flatten = (List.replicate k i).map V.int := by
  induction k with
  | zero => rfl
  | succ k ih => rw [List.replicate_succ, List.flatten_cons, ih]; rfl
theorem ok_row (F : Fun K "_law_row" "_law_row" s__law_row f fd) (B : Bu K mg) (C__law_draw : Cal P w K mg base "_law_draw" 2 ["well", "many"] spDraw) (C__law_number : Cal P w K mg base "_law_number" 3 ["well"] spNumber) :
    FnOk P w K mg base CX0 4 f fd ["well", "many"] spRow := by
  refine F.ok sc__law_row (fun vs H Q E h => ?_) (fun cdv A outer s H vs Q E hr h => ?_)
  · obtain ⟨x, m, M, rfl, _⟩ := h
    rfl
  obtain ⟨wl, n, M, rfl, h0, h1, hw, hM, q⟩ := h
  refine ⟨_, (@pss_cons _ _ _ _ _ (@ps_if _ _ _ _ _ _ _ _ (@pt_cmpR _ _ _ _ _ _ _ _ op_eq (@pe_cal _ _ _ _ _ _ _ _ _ _ _ C__law_draw hr (by omega) rfl (@pa_cons _ _ _ _ _ (@pv _ 0 _ _ (by rfl) (by first | exact Or.inl rfl | exact Or.inr ( Or.inl rfl ) | exact Or.inr ( Or.inr rfl )) (by decide) (by decide)) (@pa_cons _ _ _ _ _ pe_int pa_nil (by rfl)) (by rfl)) (by decide) (by rfl) (by rfl)) pe_int (nomark _)) (@pss_one _ _ _ (@ps_ret _ _ _ _ (@pe_op _ _ _ _ _ _ _ _ op_rep (@pe_lst _ _ _ _ (@pa_cons _ _ _ _ _ (@pe_cal _ _ _ _ _ _ _ _ _ _ _ C__law_number hr (by omega) rfl (@pa_cons _ _ _ _ _ (@pv _ 0 _ _ (by rfl) (by first | exact Or.inl rfl | exact Or.inr ( Or.inl rfl ) | exact Or.inr ( Or.inr rfl )) (by decide) (by decide)) pa_nil (by rfl)) (by decide) (by rfl) (by rfl)) pa_nil (by rfl))) (@pv _ 1 _ _ (by rfl) (by first | exact Or.inl rfl | exact Or.inr ( Or.inl rfl ) | exact Or.inr ( Or.inr rfl )) (by decide) (by decide))))) pss_nil) (@pss_one _ _ _ (@ps_ret _ _ _ _ (@pe_lc _ _ _ _ _ _ _ _ (["k", "well"]) ([none, some 0]) _ _ _ _ rfl (@pi_range1 _ _ _ _ _ _ rfl B.irange (@pa_cons _ _ _ _ _ (@pv _ 1 _ _ (by rfl) (by first | exact Or.inl rfl | exact Or.inr ( Or.inl rfl ) | exact Or.inr ( Or.inr rfl )) (by decide) (by decide)) pa_nil (by rfl)) (by rfl)) rfl ⟨rfl, trivial⟩ ⟨⟨rfl, Or.inl rfl, Or.inl rfl⟩, trivial⟩ (fun _ _ _ _ => ⟨(@pg_name _ _ (0) _ (show List.Nodup (["k", "well"] : List Str) by decide +kernel) rfl (Or.inl rfl) (by first | exact .inl rfl | exact .inr rfl | assumption)), pifs_nil, (@pe_cal _ _ _ _ _ _ _ _ _ _ _ C__law_number hr (by omega) rfl (@pa_cons _ _ _ _ _ (@pv _ 1 _ _ (by rfl) (by first | exact Or.inl rfl | exact Or.inr ( Or.inl rfl ) | exact Or.inr ( Or.inr rfl )) (by decide) (by decide)) pa_nil (by rfl)) (by decide) (by rfl) (by rfl))⟩) (by rfl) (by rfl) (by rfl) (by rfl) (by intro _; rfl))))), ?_⟩
  refine ⟨_, rfl, wl, 8, M, rfl, by decide, by decide, hw, by omega, fun r1 H1 a1 b1 g1 w1 => ⟨rfl, _, rfl, ite2 (fun _ => ?_) (fun _ => ?_)⟩⟩
  · refine ⟨_, rfl, wl, _, rfl, w1, by omega, fun i H2 i0 i1 g2 w2 => ⟨(by show 1 ≤ sizeLine; decide), fun p1 n1 => ?_⟩⟩
    refine ⟨_, rfl, p1, n, _, rfl, rfl, upd_same, by omega, by omega, le_line (by show 1 * n.toNat ≤ 1000; omega), fun p2 n2 => ?_⟩
    have w3 := w2.keep (Same.new n1 (.lst [.int i])) (Int.le_refl _)
    have w4 := w3.keep (Same.new n2 (.lst (List.replicate n.toNat [V.int i]).flatten)) (Int.le_refl _)
    refine q p2 (List.replicate n.toNat i) _ (((g1.trans g2).trans (But.new n1 _)).trans (But.new n2 _)) (w4.more (by omega)) (But.free ((g1.trans g2).trans (But.new n1 (.lst [.int i]))) w3 n2) ?_ (by rw [List.length_replicate]; omega) ?_
    · rw [upd_same, rep_one]
    · intro z hz
      rw [List.eq_of_mem_replicate hz]
      exact ⟨i0, i1⟩
  · refine ⟨_, rfl, n, rfl, by omega, by omega, ?_⟩
    refine ⟨fun i m ys H' => i ≤ n.toNat ∧ m = n.toNat - i ∧ ∃ ns : List Int, ys = ns.map V.int ∧ ns.length = i ∧ Small ns ∧ But wl H H' ∧ Wel H' wl (M + 1 + 7 * i), ⟨_, Nat.zero_le _, rfl, [], rfl, rfl, (fun _ z => nomatch z), g1, w1.more (by omega)⟩, ?_⟩
    rintro i m ys H' ⟨hi, rfl, ns, rfl, hl, hs, hb, hw'⟩
    by_cases hlt : i < n.toNat
    · refine .inr ⟨hlt, small1000 (by rw [List.length_map]; omega), fun x H2 y => ?_⟩
      obtain ⟨rfl, rfl⟩ := y
      refine ⟨_, rfl, wl, _, rfl, hw', by omega, fun z H3 z0 z1 g3 w3 => ?_⟩
      refine ⟨n.toNat - (i + 1), by omega, hlt, rfl, ns ++ [z], by rw [List.map_append]; rfl, by rw [List.length_append, List.length_singleton, hl], ?_, hb.trans g3, w3.more (by omega)⟩
      intro u hu
      rcases List.mem_append.mp hu with hu | hu
      · exact hs u hu
      · rw [List.mem_singleton.mp hu]; exact ⟨z0, z1⟩
    · refine .inl ⟨Nat.not_lt.mp hlt, fun p hp => ?_⟩
      refine q p ns _ (hb.trans (But.new hp _)) ((hw'.keep (Same.new hp _) (Int.le_refl _)).more (by omega)) (But.free hb hw' hp) upd_same (by omega) hs
/-! ### _law_signs -/
def spLawSigns : Sp := fun vs H Q _ => ∃ w M, vs = [.ref w] ∧ Wel H w M ∧ M < 999990000 ∧ ∀ gs H', 1 ≤ gs.length → gs.length ≤ 3 → But w H H' → Wel H' w (M + 1) → Q (.str (sgText gs)) H'
theorem at9 {k : Int} (h0 : 0 ≤ k) (h1 : k < 9) : ∃ gs : List Sg, atI [V.str "+-*", .str "+-*", .str "+-*", .str "+", .str "-", .str "*", .str "+-", .str "+*", .str "-*"] k = some (.str (sgText gs)) ∧ 1 ≤ gs.length ∧ gs.length ≤ 3 := by
  have : k = 0 ∨ k = 1 ∨ k = 2 ∨ k = 3 ∨ k = 4 ∨ k = 5 ∨ k = 6 ∨ k = 7 ∨ k = 8 := by omega
  rcases this with rfl | rfl | rfl | rfl | rfl | rfl | rfl | rfl | rfl
  · exact ⟨[.plus, .minus, .times], by rfl, by decide, by decide⟩
  · exact ⟨[.plus, .minus, .times], by rfl, by decide, by decide⟩
  · exact ⟨[.plus, .minus, .times], by rfl, by decide, by decide⟩
  · exact ⟨[.plus], by rfl, by decide, by decide⟩
  · exact ⟨[.minus], by rfl, by decide, by decide⟩
  · exact ⟨[.times], by rfl, by decide, by decide⟩
  · exact ⟨[.plus, .minus], by rfl, by decide, by decide⟩
  · exact ⟨[.plus, .times], by rfl, by decide, by decide⟩
  · exact ⟨[.minus, .times], by rfl, by decide, by decide⟩
abbrev s__law_signs : Stmt := top 39
theorem sc__law_signs : FnScope ["well"] ["well"] (defScope s__law_signs) := ⟨rfl, rfl, rfl, by decide +kernel, rfl, by decide +kernel, by decide +kernel⟩
theorem ok_law_signs (F : Fun K "_law_signs" "_law_signs" s__law_signs f fd) (C__law_draw : Cal P w K mg base "_law_draw" 2 ["well", "many"] spDraw) : FnOk P w K mg base CX0 3 f fd ["well"] spLawSigns := by
  refine F.ok sc__law_signs (fun vs H Q E h => ?_) (fun cdv A outer s H vs Q E hr h => ?_)
  · obtain ⟨x, M, rfl, _⟩ := h
    rfl
  obtain ⟨wl, M, rfl, hw, hM, q⟩ := h
  refine ⟨_, (@pss_one _ _ _ (@ps_ret _ _ _ _ (@pe_ix _ _ _ _ _ _ _ ix_list (@pe_lst _ _ _ _ (@pa_cons _ _ _ _ _ pe_str (@pa_cons _ _ _ _ _ pe_str (@pa_cons _ _ _ _ _ pe_str (@pa_cons _ _ _ _ _ pe_str (@pa_cons _ _ _ _ _ pe_str (@pa_cons _ _ _ _ _ pe_str (@pa_cons _ _ _ _ _ pe_str (@pa_cons _ _ _ _ _ pe_str (@pa_cons _ _ _ _ _ pe_str pa_nil (by rfl)) (by rfl)) (by rfl)) (by rfl)) (by rfl)) (by rfl)) (by rfl)) (by rfl)) (by rfl))) (@pe_cal _ _ _ _ _ _ _ _ _ _ _ C__law_draw hr (by omega) rfl (@pa_cons _ _ _ _ _ (@pv _ 0 _ _ (by rfl) (by first | exact Or.inl rfl | exact Or.inr ( Or.inl rfl ) | exact Or.inr ( Or.inr rfl )) (by decide) (by decide)) (@pa_cons _ _ _ _ _ pe_int pa_nil (by rfl)) (by rfl)) (by decide) (by rfl) (by rfl)) (fun _ _ => rfl)))), ?_⟩
  refine ⟨(by show 9 ≤ sizeLine; decide), fun p1 n1 => ?_⟩
  have w1 := hw.keep (Same.new n1 (.lst [.str "+-*", .str "+-*", .str "+-*", .str "+", .str "-", .str "*", .str "+-", .str "+*", .str "-*"])) (Int.le_refl _)
  refine ⟨_, rfl, wl, 9, _, rfl, by decide, by decide, w1, by omega, fun r1 H1 a1 b1 g1 w2 => ?_⟩
  obtain ⟨gs, hg, l1, l2⟩ := at9 a1 b1
  exact ⟨p1, _, _, _, rfl, rfl, SqL.of (g1 _ _ (hw.ne n1) upd_same), hg, q gs H1 l1 l2 ((But.new n1 _).trans g1) w2⟩
/-! ### _law_way -/
theorem str_toList (x y : Str) : (x ++ y).cps.toList = x.cps.toList ++ y.cps.toList := by
  obtain ⟨a⟩ := x; obtain ⟨b⟩ := y
  show (a ++ b).toList = _
  rw [Array.toList_append]
def Sg.code : Sg → Nat
  | .plus => 43
  | .minus => 45
  | .times => 42
theorem sg_str_code (g : Sg) : g.str = ⟨#[g.code]⟩ := by cases g <;> rfl
theorem sgText_codes : ∀ gs : List Sg, (sgText gs).cps.toList = gs.map Sg.code
  | [] => rfl
  | g :: r => by
    show (g.str ++ sgText r).cps.toList = g.code :: r.map Sg.code
    rw [str_toList, sgText_codes r, sg_str_code]; rfl
theorem at_sg {gs : List Sg} {k : Int} (h0 : 0 ≤ k) (h1 : k < (gs.length : Nat)) : ∃ g : Sg, atI (sgText gs).cps.toList k = some g.code ∧ g ∈ gs := by
  obtain ⟨j, rfl⟩ := Int.eq_ofNat_of_zero_le h0
  have hj : j < gs.length := by omega
  refine ⟨gs[j], atI_nat ?_, List.getElem_mem hj⟩
  rw [sgText_codes, List.getElem?_map, List.getElem?_eq_getElem hj]; rfl
def Wy.within (gs : List Sg) : Wy → Prop
  | .num _ => True
  | .node g l r => g ∈ gs ∧ l.within gs ∧ r.within gs
def spWay (n : Nat) : Sp := fun vs H Q _ => ∃ w r gs ns M, vs = [.ref w, .ref r, .str (sgText gs)] ∧ H r = some (.lst (ns.map V.int)) ∧ r ≠ w ∧ 1 ≤ ns.length ∧ ns.length ≤ n ∧ n ≤ 20 ∧ 1 ≤ gs.length ∧ gs.length ≤ 3 ∧ Wel H w M ∧ M + 4 * ns.length - 4 < 999999000 ∧
  ∀ v wy H', WyIn H' wy v → wy.nums = ns → wy.within gs → But w H H' → Wel H' w (M + 4 * ns.length - 4) → Q v H'
theorem at3 {a b c : Int} {k : Int} (h0 : 0 ≤ k) (h1 : k < 3) (P : Int → Prop) (pa : P a) (pb : P b) (pc : P c) : ∃ z, atI [V.int a, .int b, .int c] k = some (.int z) ∧ P z := by
  have : k = 0 ∨ k = 1 ∨ k = 2 := by omega
  rcases this with rfl | rfl | rfl
  · exact ⟨a, rfl, pa⟩
  · exact ⟨b, rfl, pb⟩
  · exact ⟨c, rfl, pc⟩
theorem cut_take (ns : List Int) (c : Nat) (h : c ≤ ns.length) : cutV (ns.map V.int) none (some (c : Int)) = (ns.take c).map V.int := by
  have hl : (ns.map V.int).length = ns.length := List.length_map _
  have e0 : HT.sIx ns.length 0 none = 0 := by simp [HT.sIx]
  have e1 : HT.sIx ns.length ns.length (some (c : Int)) = c := by
    simp only [HT.sIx]
    split <;> omega
  unfold cutV
  rw [hl, e0, e1, List.drop_zero, List.map_take]
  rfl
theorem cut_drop (ns : List Int) (c : Nat) (h : c ≤ ns.length) : cutV (ns.map V.int) (some (c : Int)) none = (ns.drop c).map V.int := by
  have hl : (ns.map V.int).length = ns.length := List.length_map _
  have e0 : HT.sIx ns.length ns.length none = ns.length := by simp [HT.sIx]
  have e1 : HT.sIx ns.length 0 (some (c : Int)) = c := by
    simp only [HT.sIx]
    split <;> omega
  unfold cutV
  rw [hl, e0, e1, List.map_drop, List.take_of_length_le (by rw [List.length_drop, hl]; exact Nat.le_refl _)]
abbrev s__law_way : Stmt := top 40
theorem sc__law_way : FnScope ["well", "row", "signs", "cut", "sign"] ["well", "row", "signs"] (defScope s__law_way) := ⟨rfl, rfl, rfl, by decide +kernel, rfl, by decide +kernel, by decide +kernel⟩
theorem ok_way (F : Fun K "_law_way" "_law_way" s__law_way f fd) (bF : Binds K fd ["well", "row", "signs"] []) (mF : mg "_law_way" = some (.ref f)) (B : Bu K mg) (C__law_draw : Cal P w K mg base "_law_draw" 2 ["well", "many"] spDraw) :
    ∀ n, FnOk P w K mg base CX0 (n + 2) f fd ["well", "row", "signs"] (spWay n) := by
  intro n
  induction n with
  | zero =>
    refine ⟨fun vs H Q E h => ?_, fun A outer s H args us vs Q E _ _ _ _ h => ?_⟩
    · obtain ⟨x, r, gs, ns, M, rfl, _⟩ := h
      rfl
    · obtain ⟨x, r, gs, ns, M, _, _, _, h1, h2, _⟩ := h
      omega
  | succ n ih =>
    have C__law_way : Cal P w K mg base "_law_way" (n + 2) ["well", "row", "signs"] (spWay n) := ⟨f, fd, ih, bF, F.kp, mF⟩
    refine F.ok sc__law_way (fun vs H Q E h => ?_) (fun cdv A outer s H vs Q E hr h => ?_)
    · obtain ⟨x, r, gs, ns, M, rfl, _⟩ := h
      rfl
    obtain ⟨wl, r, gs, ns, M, rfl, er, nr, h1, h2, h20, g1, g3, hw, hM, q⟩ := h
    refine ⟨_, (@pss_cons _ _ _ _ _ (@ps_if _ _ _ _ _ _ _ _ (@pt_cmpR _ _ _ _ _ _ _ _ op_eq (@pe_callB _ _ _ _ _ _ _ _ _ call_len_seq rfl B.ilen PySem.boot_len (@pa_cons _ _ _ _ _ (@pv _ 1 _ _ (by rfl) (by first | exact Or.inl rfl | exact Or.inr ( Or.inl rfl ) | exact Or.inr ( Or.inr rfl )) (by decide) (by decide)) pa_nil (by rfl)) (by decide) (by decide) (by rfl) (by rfl)) pe_int (nomark _)) (@pss_one _ _ _ (@ps_ret _ _ _ _ (@pe_ix _ _ _ _ _ _ _ ix_list (@pv _ 1 _ _ (by rfl) (by first | exact Or.inl rfl | exact Or.inr ( Or.inl rfl ) | exact Or.inr ( Or.inr rfl )) (by decide) (by decide)) pe_int (fun _ _ => rfl)))) pss_nil) (@pss_cons _ _ _ _ _ (@ps_set _ _ (3) _ _ _ _ (sc__law_way).nd rfl (Or.inl rfl) (@pe_ix _ _ _ _ _ _ _ ix_list (@pe_lst _ _ _ _ (@pa_cons _ _ _ _ _ (@pe_op _ _ _ _ _ _ _ _ op_add pe_int (@pe_cal _ _ _ _ _ _ _ _ _ _ _ C__law_draw hr (by omega) rfl (@pa_cons _ _ _ _ _ (@pv _ 0 _ _ (by rfl) (by first | exact Or.inl rfl | exact Or.inr ( Or.inl rfl ) | exact Or.inr ( Or.inr rfl )) (by decide) (by decide)) (@pa_cons _ _ _ _ _ (@pe_op _ _ _ _ _ _ _ _ op_sub (@pe_callB _ _ _ _ _ _ _ _ _ call_len_seq rfl B.ilen PySem.boot_len (@pa_cons _ _ _ _ _ (@pv _ 1 _ _ (by rfl) (by first | exact Or.inl rfl | exact Or.inr ( Or.inl rfl ) | exact Or.inr ( Or.inr rfl )) (by decide) (by decide)) pa_nil (by rfl)) (by decide) (by decide) (by rfl) (by rfl)) pe_int) pa_nil (by rfl)) (by rfl)) (by decide) (by rfl) (by rfl))) (@pa_cons _ _ _ _ _ pe_int (@pa_cons _ _ _ _ _ (@pe_op _ _ _ _ _ _ _ _ op_sub (@pe_callB _ _ _ _ _ _ _ _ _ call_len_seq rfl B.ilen PySem.boot_len (@pa_cons _ _ _ _ _ (@pv _ 1 _ _ (by rfl) (by first | exact Or.inl rfl | exact Or.inr ( Or.inl rfl ) | exact Or.inr ( Or.inr rfl )) (by decide) (by decide)) pa_nil (by rfl)) (by decide) (by decide) (by rfl) (by rfl)) pe_int) pa_nil (by rfl)) (by rfl)) (by rfl))) (@pe_op _ _ _ _ _ _ _ _ op_fdivB (@pe_cal _ _ _ _ _ _ _ _ _ _ _ C__law_draw hr (by omega) rfl (@pa_cons _ _ _ _ _ (@pv _ 0 _ _ (by rfl) (by first | exact Or.inl rfl | exact Or.inr ( Or.inl rfl ) | exact Or.inr ( Or.inr rfl )) (by decide) (by decide)) (@pa_cons _ _ _ _ _ pe_int pa_nil (by rfl)) (by rfl)) (by decide) (by rfl) (by rfl)) pe_int) (fun _ _ => rfl)) (by rfl) (by first | exact .inl rfl | exact .inr rfl | assumption)) (@pss_cons _ _ _ _ _ (@ps_set _ _ (4) _ _ _ _ (sc__law_way).nd rfl (Or.inl rfl) (@pe_ix _ _ _ _ _ _ _ ix_str (@pv _ 2 _ _ (by rfl) (by first | exact Or.inl rfl | exact Or.inr ( Or.inl rfl ) | exact Or.inr ( Or.inr rfl )) (by decide) (by decide)) (@pe_cal _ _ _ _ _ _ _ _ _ _ _ C__law_draw hr (by omega) rfl (@pa_cons _ _ _ _ _ (@pv _ 0 _ _ (by rfl) (by first | exact Or.inl rfl | exact Or.inr ( Or.inl rfl ) | exact Or.inr ( Or.inr rfl )) (by decide) (by decide)) (@pa_cons _ _ _ _ _ (@pe_callB _ _ _ _ _ _ _ _ _ call_len_str rfl B.ilen PySem.boot_len (@pa_cons _ _ _ _ _ (@pv _ 2 _ _ (by rfl) (by first | exact Or.inl rfl | exact Or.inr ( Or.inl rfl ) | exact Or.inr ( Or.inr rfl )) (by decide) (by decide)) pa_nil (by rfl)) (by decide) (by decide) (by rfl) (by rfl)) pa_nil (by rfl)) (by rfl)) (by decide) (by rfl) (by rfl)) (fun _ _ => rfl)) (by rfl) (by first | exact .inl rfl | exact .inr rfl | assumption)) (@pss_one _ _ _ (@ps_ret _ _ _ _ (@pe_tup _ _ _ _ _ (@pa_cons _ _ _ _ _ (@pv _ 4 _ _ (by rfl) (by first | exact Or.inl rfl | exact Or.inr ( Or.inl rfl ) | exact Or.inr ( Or.inr rfl )) (by decide) (by decide)) (@pa_cons _ _ _ _ _ (@pe_cal _ _ _ _ _ _ _ _ _ _ _ C__law_way hr (by omega) rfl (@pa_cons _ _ _ _ _ (@pv _ 0 _ _ (by rfl) (by first | exact Or.inl rfl | exact Or.inr ( Or.inl rfl ) | exact Or.inr ( Or.inr rfl )) (by decide) (by decide)) (@pa_cons _ _ _ _ _ (@pe_slice _ _ _ _ _ _ _ _ _ _ sl_list (@pv _ 1 _ _ (by rfl) (by first | exact Or.inl rfl | exact Or.inr ( Or.inl rfl ) | exact Or.inr ( Or.inr rfl )) (by decide) (by decide)) po_none (@po_some _ _ _ (@pv _ 3 _ _ (by rfl) (by first | exact Or.inl rfl | exact Or.inr ( Or.inl rfl ) | exact Or.inr ( Or.inr rfl )) (by decide) (by decide)))) (@pa_cons _ _ _ _ _ (@pv _ 2 _ _ (by rfl) (by first | exact Or.inl rfl | exact Or.inr ( Or.inl rfl ) | exact Or.inr ( Or.inr rfl )) (by decide) (by decide)) pa_nil (by rfl)) (by rfl)) (by rfl)) (by decide) (by rfl) (by rfl)) (@pa_cons _ _ _ _ _ (@pe_cal _ _ _ _ _ _ _ _ _ _ _ C__law_way hr (by omega) rfl (@pa_cons _ _ _ _ _ (@pv _ 0 _ _ (by rfl) (by first | exact Or.inl rfl | exact Or.inr ( Or.inl rfl ) | exact Or.inr ( Or.inr rfl )) (by decide) (by decide)) (@pa_cons _ _ _ _ _ (@pe_slice _ _ _ _ _ _ _ _ _ _ sl_list (@pv _ 1 _ _ (by rfl) (by first | exact Or.inl rfl | exact Or.inr ( Or.inl rfl ) | exact Or.inr ( Or.inr rfl )) (by decide) (by decide)) (@po_some _ _ _ (@pv _ 3 _ _ (by rfl) (by first | exact Or.inl rfl | exact Or.inr ( Or.inl rfl ) | exact Or.inr ( Or.inr rfl )) (by decide) (by decide))) po_none) (@pa_cons _ _ _ _ _ (@pv _ 2 _ _ (by rfl) (by first | exact Or.inl rfl | exact Or.inr ( Or.inl rfl ) | exact Or.inr ( Or.inr rfl )) (by decide) (by decide)) pa_nil (by rfl)) (by rfl)) (by rfl)) (by decide) (by rfl) (by rfl)) pa_nil (by rfl)) (by rfl)) (by rfl)))))))), ?_⟩
    have hl : (ns.map V.int).length = ns.length := List.length_map _
    refine ⟨_, rfl, r, _, rfl, .inl (SqL.of er), rfl, _, rfl, ite2 (fun c => ?_) (fun c => ?_)⟩
    · have c' : V.int (((ns.map V.int).length : Nat) : Int) = V.int 1 := of_decide_eq_true c
      have c2 : (((ns.map V.int).length : Nat) : Int) = 1 := by injection c'
      rw [hl] at c2
      match ns, c2, er, q with
      | [i], _, er, q =>
        exact ⟨_, rfl, r, _, _, _, rfl, rfl, SqL.of er, rfl, q _ (.num i) H rfl rfl trivial But.refl (hw.more (by show M ≤ M + 4 * ((1 : Nat) : Int) - 4; omega))⟩
    have c2 : ns.length ≠ 1 := fun e => c (by rw [hl, e]; rfl)
    refine ⟨_, rfl, _, rfl, r, _, rfl, .inl (SqL.of er), _, _, rfl, rfl, wl, ((ns.map V.int).length : Int) - 1, M, rfl, by rw [hl]; omega, by rw [hl]; omega, hw, by omega, fun r1 H1 a1 b1 k1 w1 => ?_⟩
    rw [hl] at b1
    have er1 := k1 _ _ nr er
    refine ⟨_, _, rfl, rfl, _, rfl, r, _, rfl, .inl (SqL.of er1), _, _, rfl, rfl, (by show 3 ≤ sizeLine; decide), fun p1 n1 => ?_⟩
    have w1' := w1.keep (Same.new n1 (.lst [.int (1 + r1), .int 1, .int (((ns.map V.int).length : Int) - 1)])) (Int.le_refl _)
    refine ⟨_, rfl, wl, 5, _, rfl, by decide, by decide, w1', by omega, fun r2 H2 a2 b2 k2 w2 => ?_⟩
    have z2 : 0 ≤ r2 / 2 ∧ r2 / 2 < 3 := by omega
    obtain ⟨cut, hc, c0, c1⟩ := at3 (a := 1 + r1) (b := 1) (c := ((ns.map V.int).length : Int) - 1) z2.1 z2.2 (fun i => 1 ≤ i ∧ i < (ns.length : Int)) (by omega) (by omega) (by rw [hl]; omega)
    have ne1 : p1 ≠ wl := w1.ne n1
    refine ⟨_, _, rfl, rfl, ⟨by decide, by decide⟩, p1, _, _, _, rfl, rfl, SqL.of (k2 _ _ ne1 upd_same), hc, ?_⟩
    have hgl := sgText_len gs
    refine ⟨_, rfl, _, rfl, _, rfl, _, rfl, le_line (by omega), wl, ((sgText gs).length : Int), _, rfl, by omega, by omega, w2, by omega, fun r3 H3 a3 b3 k3 w3 => ?_⟩
    obtain ⟨g, hg, gm⟩ := at_sg (gs := gs) a3 (by omega)
    refine ⟨_, _, _, rfl, rfl, le_line (by omega), hg, ?_⟩
    obtain ⟨cn, rfl⟩ := Int.eq_ofNat_of_zero_le (show 0 ≤ cut by omega)
    have hcl : cn ≤ ns.length := by omega
    have kk : But wl H H3 := ((k1.trans (But.new n1 _)).trans k2).trans k3
    have er3 := kk _ _ nr er
    refine ⟨_, rfl, _, rfl, _, rfl, _, rfl, cn, rfl, r, _, rfl, SqL.of er3, fun p2 n2 => ?_⟩
    rw [cut_take ns cn hcl]
    have lt : (ns.take cn).length = cn := by rw [List.length_take]; omega
    have ld : (ns.drop cn).length = ns.length - cn := by rw [List.length_drop]
    have w4 := w3.keep (Same.new n2 (.lst ((ns.take cn).map V.int))) (Int.le_refl _)
    refine ⟨_, rfl, wl, p2, gs, ns.take cn, _, rfl, upd_same, w3.ne n2, by omega, by omega, by omega, g1, g3, w4, by omega, fun vl wyl H4 i4 e4 t4 k4 w5 => ?_⟩
    have kk4 : But wl H H4 := (kk.trans (But.new n2 _)).trans k4
    have er4 := kk4 _ _ nr er
    refine ⟨_, rfl, _, rfl, _, rfl, cn, rfl, r, _, rfl, SqL.of er4, fun p3 n3 => ?_⟩
    rw [cut_drop ns cn hcl]
    have w6 := w5.keep (Same.new n3 (.lst ((ns.drop cn).map V.int))) (Int.le_refl _)
    refine ⟨_, rfl, wl, p3, gs, ns.drop cn, _, rfl, upd_same, w5.ne n3, by omega, by omega, by omega, g1, g3, w6, by omega, fun vr wyr H5 i5 e5 t5 k5 w7 => ?_⟩
    refine ⟨(by show 3 ≤ sizeLine; decide), fun p4 n4 => ?_⟩
    have T45 : Tups H4 H5 := (Tups.of (Same.new n3 _)).trans (w6.tups k5)
    have T5 : Tups H5 (upd H5 p4 (.tup [.str ⟨#[g.code]⟩, vl, vr])) := Tups.of (Same.new n4 _)
    refine q _ (.node g wyl wyr) _ ⟨p4, vl, vr, rfl, ?_, i4.mono (T45.trans T5), i5.mono T5⟩ ?_ ⟨gm, t4, t5⟩ (((kk4.trans (But.new n3 _)).trans k5).trans (But.new n4 _)) ?_
    · rw [upd_same, sg_str_code]
    · show wyl.nums ++ wyr.nums = ns
      rw [e4, e5, List.take_append_drop]
    · refine (w7.keep (Same.new n4 _) (Int.le_refl _)).more ?_
      omega
end
end Put

set_option Elab.async false
set_option linter.all false
set_option maxRecDepth 100000
set_option maxHeartbeats 2000000
namespace Put
open PySem L2
/-! ### small things -/
mutual
def szD : PyData → Nat
  | .list ds => szAll ds + 1
  | .tuple ds => szAll ds + 1
  | .none => 1
  | .bool _ => 1
  | .int _ => 1
  | .str _ => 1
  | .dict _ => 1
def szAll : List PyData → Nat
  | [] => 0
  | d :: ds => szD d + szAll ds
end
mutual
def OkD : PyData → Prop
  | .none => True
  | .bool _ => True
  | .int i => i.natAbs < 10 ^ 13
  | .str x => (reprText x).length ≤ 20
  | .list ds => OkAll ds
  | .tuple ds => OkAll ds
  | .dict kvs => kvs = []
def OkAll : List PyData → Prop
  | [] => True
  | d :: ds => OkD d ∧ OkAll ds
end
mutual
theorem ok_show : ∀ d : PyData, OkD d → d.showable = true
  | .none, h => by simp [PyData.showable]
  | .bool _, h => by simp [PyData.showable]
  | .int i, h => by
    simp only [OkD] at h
    have z : (10 : Nat) ^ 13 < 2 ^ 60 := by decide
    have : i.natAbs.log2 < 60 := by
      by_cases c : i.natAbs = 0
      · rw [c]; decide
      · exact (Nat.log2_lt c).mpr (by omega)
    simp only [PyData.showable]; exact decide_eq_true (by omega)
  | .str _, h => by simp [PyData.showable]
  | .list ds, h => by simp only [OkD] at h; simp only [PyData.showable]; exact ok_showAll ds h
  | .tuple ds, h => by simp only [OkD] at h; simp only [PyData.showable]; exact ok_showAll ds h
  | .dict kvs, h => by simp only [OkD] at h; subst h; simp [PyData.showable, PyData.showableKv]
theorem ok_showAll : ∀ ds : List PyData, OkAll ds → PyData.showableAll ds = true
  | [], h => by simp [PyData.showableAll]
  | d :: ds, h => by
    simp only [OkAll] at h
    simp only [PyData.showableAll, ok_show d h.1, ok_showAll ds h.2, Bool.and_self]
end
mutual
theorem ok_len : ∀ d : PyData, OkD d → d.shown.length + 5 ≤ 40 * szD d
  | .none, h => by show 4 + 5 ≤ 40 * szD .none; simp [szD]
  | .bool b, h => by cases b <;> (simp only [szD]; decide)
  | .int i, h => by
    simp only [OkD] at h
    have e := int_text_length_le10 (a := i) (k := 13) (by decide) h
    simp only [szD]
    show (Str.ofString (toString i)).length + 5 ≤ 40
    rw [ofString_length]; omega
  | .str x, h => by
    simp only [OkD] at h
    simp only [szD, PyData.shown]; omega
  | .list ds, h => by
    simp only [OkD] at h
    have a := ok_lenAll ds h
    have b := listText_len_le (PyData.shownAll ds)
    have c := PyData.shownAll_length ds
    simp only [szD, PyData.shown]
    omega
  | .tuple ds, h => by
    simp only [OkD] at h
    have a := ok_lenAll ds h
    have b := tupleText_len_le (PyData.shownAll ds)
    have c := PyData.shownAll_length ds
    simp only [szD, PyData.shown]
    omega
  | .dict kvs, h => by
    simp only [OkD] at h; subst h
    simp only [szD]
    show (PyData.shown (.dict [])).length + 5 ≤ 40
    decide +kernel
theorem ok_lenAll : ∀ ds : List PyData, OkAll ds → ((PyData.shownAll ds).map (·.length)).sum + 5 * ds.length ≤ 40 * szAll ds
  | [], h => by simp [PyData.shownAll, szAll]
  | d :: ds, h => by
    simp only [OkAll] at h
    have a := ok_len d h.1
    have b := ok_lenAll ds h.2
    simp only [PyData.shownAll, szAll, List.map_cons, List.sum_cons, List.length_cons]
    omega
end
mutual
theorem szD_pos : ∀ d : PyData, 1 ≤ szD d
  | .none => by simp [szD]
  | .bool _ => by simp [szD]
  | .int _ => by simp [szD]
  | .str _ => by simp [szD]
  | .list _ => by simp [szD]
  | .tuple _ => by simp [szD]
  | .dict _ => by simp [szD]
end
/-! ### what is a way -/
def sgD : PyData → Bool
  | .str z => isSg z
  | _ => false
mutual
def cntD : PyData → Option Nat
  | .int _ => some 1
  | .tuple ds => cntT ds
  | .none => none
  | .bool _ => none
  | .str _ => none
  | .list _ => none
  | .dict _ => none
def cntT : List PyData → Option Nat
  | [] => none
  | [_] => none
  | [_, _] => none
  | [s, l, r] => if sgD s then (match cntD l, cntD r with | some a, some b => some (a + b) | _, _ => none) else none
  | _ :: _ :: _ :: _ :: _ => none
end
def isWayD (d : PyData) : Bool := match cntD d with
  | some n => decide (n ≤ 9)
  | none => false
/-- all that waits -/
def tot : List PyData → Option Nat
  | [] => some 0
  | d :: ds => match cntD d, tot ds with | some a, some b => some (a + b) | _, _ => none
def szL (ds : List PyData) : Nat := (ds.map szD).sum
end Put

set_option Elab.async false
set_option linter.all false
set_option maxRecDepth 100000
set_option maxHeartbeats 2000000
namespace Put
open PySem L2
theorem tot_snoc : ∀ (ds : List PyData) (d : PyData), tot (ds ++ [d]) = (match tot ds, cntD d with | some a, some b => some (a + b) | _, _ => none)
  | [], d => by
    show (match cntD d, some 0 with | some a, some b => some (a + b) | _, _ => none) = _
    cases cntD d <;> simp [tot]
  | e :: ds, d => by
    show (match cntD e, tot (ds ++ [d]) with | some a, some b => some (a + b) | _, _ => none) = (match (match cntD e, tot ds with | some a, some b => some (a + b) | _, _ => none), cntD d with | some a, some b => some (a + b) | _, _ => none)
    rw [tot_snoc ds d]
    cases cntD e <;> cases tot ds <;> cases cntD d <;> simp [Nat.add_assoc]
theorem cntD_pos : ∀ (d : PyData) (n : Nat), cntD d = some n → 1 ≤ n
  | .int _, n, h => by simp only [cntD] at h; injection h with h; omega
  | .tuple ds, n, h => by
    simp only [cntD] at h
    match ds, h with
    | [], h => simp [cntT] at h
    | [_], h => simp [cntT] at h
    | [_, _], h => simp [cntT] at h
    | [s, l, r], h =>
      simp only [cntT] at h
      split at h
      · cases e1 : cntD l with
        | none => rw [e1] at h; cases h
        | some a =>
          cases e2 : cntD r with
          | none => rw [e1, e2] at h; cases h
          | some b =>
            rw [e1, e2] at h
            have := cntD_pos l a e1
            injection h with h; omega
      · cases h
    | _ :: _ :: _ :: _ :: _, h => simp [cntT] at h
  | .none, n, h => by simp [cntD] at h
  | .bool _, n, h => by simp [cntD] at h
  | .str _, n, h => by simp [cntD] at h
  | .list _, n, h => by simp [cntD] at h
  | .dict _, n, h => by simp [cntD] at h
theorem tot_len : ∀ (ds : List PyData) (t : Nat), tot ds = some t → ds.length ≤ t
  | [], t, h => Nat.zero_le _
  | d :: ds, t, h => by
    have h' : (match cntD d, tot ds with | some a, some b => some (a + b) | _, _ => none) = some t := h
    cases e1 : cntD d with
    | none => rw [e1] at h'; cases h'
    | some a =>
      cases e2 : tot ds with
      | none => rw [e1, e2] at h'; cases h'
      | some b =>
        rw [e1, e2] at h'
        have := cntD_pos d a e1
        have := tot_len ds b e2
        injection h' with h'
        rw [List.length_cons]; omega
theorem szL_snoc (ds : List PyData) (d : PyData) : szL (ds ++ [d]) = szL ds + szD d := by simp [szL]
theorem len_szL : ∀ ds : List PyData, ds.length ≤ szL ds
  | [] => Nat.le_refl _
  | d :: ds => by
    have a := len_szL ds; have b := szD_pos d
    show ds.length + 1 ≤ (szD d :: ds.map szD).sum
    rw [List.sum_cons]
    have : szL ds = (ds.map szD).sum := rfl
    omega
/-- what the count of all comes to -/
def Left (n : Nat) (ds : List PyData) (d0 : PyData) : Prop := cntD d0 = (tot ds).map (· + n)
theorem Left.bad {n : Nat} {ds : List PyData} {d d0 : PyData} (h : Left n (ds ++ [d]) d0) (e : cntD d = none) : isWayD d0 = false := by
  unfold Left at h
  rw [tot_snoc, e] at h
  have h2 : cntD d0 = none := by rw [h]; cases tot ds <;> rfl
  unfold isWayD; rw [h2]
theorem Left.num {n : Nat} {ds : List PyData} {i : Int} {d0 : PyData} (h : Left n (ds ++ [.int i]) d0) : Left (n + 1) ds d0 := by
  unfold Left at h ⊢
  rw [h, tot_snoc]
  have e : cntD (.int i) = some 1 := by simp only [cntD]
  rw [e]
  cases tot ds with
  | none => rfl
  | some a => show some (a + 1 + n) = some (a + (n + 1)); congr 1; omega
theorem Left.node {n : Nat} {ds : List PyData} {s l r d0 : PyData} (h : Left n (ds ++ [.tuple [s, l, r]]) d0) (hs : sgD s = true) : Left n (ds ++ [l] ++ [r]) d0 := by
  unfold Left at h ⊢
  have e : cntD (.tuple [s, l, r]) = (match cntD l, cntD r with | some a, some b => some (a + b) | _, _ => none) := by
    simp only [cntD, cntT]
    rw [if_pos hs] <;> (cases cntD l <;> cases cntD r <;> rfl)
  rw [h, tot_snoc, tot_snoc, tot_snoc, e]
  cases tot ds <;> cases cntD l <;> cases cntD r <;> simp [Nat.add_assoc]
theorem Left.full {n : Nat} {ds : List PyData} {d0 : PyData} (h : Left n ds d0) (h2 : 9 < n + ds.length) : isWayD d0 = false := by
  unfold Left at h
  unfold isWayD
  rw [h]
  cases e : tot ds with
  | none => rfl
  | some t =>
    have := tot_len ds t e
    show decide (t + n ≤ 9) = false
    exact decide_eq_false (by omega)
theorem Left.done {n : Nat} {d0 : PyData} (h : Left n [] d0) : isWayD d0 = decide (n ≤ 9) := by
  unfold Left at h
  unfold isWayD
  rw [h]
  show decide (0 + n ≤ 9) = decide (n ≤ 9)
  rw [Nat.zero_add]
section
variable {P : Program} {w : World} {K : PySem.W.Frag} {mg : Str → Option Value} {base : Heap} {f : Addr} {fd : FuncData}
def spSignD : Sp := fun vs H Q _ => ∃ d v, vs = [v] ∧ Dat H d v ∧ Q (.bl (sgD d)) H
theorem ok_is_signD {tk : Tok} {aS : Addr} (F : Fun K "is_sign" "is_sign" s_is_sign f fd) (B : Bu K mg) (B' : Co K mg tk aS) : FnOk P w K mg base CX0 1 f fd ["thing"] spSignD := by
  refine F.ok sc_is_sign (fun vs H Q E h => ?_) (fun cdv A outer s H vs Q E hr h => ?_)
  · obtain ⟨d, x, rfl, _⟩ := h
    rfl
  obtain ⟨d, v, rfl, hd, q⟩ := h
  refine ⟨_, (@pss_one _ _ _ (@ps_ret _ _ _ _ (@pe_and _ _ _ _ _ _ _ (@pe_callB _ _ _ _ _ _ _ _ _ (@call_isinst _ ("str")) rfl B.iisinstance PyProof.Rows.boot_isinstance (@pa_cons _ _ _ _ _ (@pv _ 0 _ _ (by rfl) (by first | exact Or.inl rfl | exact Or.inr ( Or.inl rfl ) | exact Or.inr ( Or.inr rfl )) (by decide) (by decide)) (@pa_cons _ _ _ _ _ (@pe_bltn _ _ (.ty "str") _ _ rfl B.istr PyProof.Rows.boot_str rfl (by decide) (by decide)) pa_nil (by rfl)) (by rfl)) (by decide) (by decide) (by rfl) (by rfl)) (@pe_one _ _ _ _ _ (@pe_cmpR _ _ _ _ _ _ _ _ op_in_seq (@pv _ 0 _ _ (by rfl) (by first | exact Or.inl rfl | exact Or.inr ( Or.inl rfl ) | exact Or.inr ( Or.inr rfl )) (by decide) (by decide)) (@pe_glob _ _ (.ref aS) _ _ rfl B'.gSIGNS rfl (by decide)) (by with_unfolding_all rfl)))))), ?_⟩
  cases d with
  | str z =>
    simp only [Dat] at hd; subst hd
    exact ⟨_, rfl, _, _, true, rfl, .str z, rfl, true, rfl, iteT ⟨_, rfl, aS, _, rfl, .inr (B'.sSIGNS H), rfl, rfl, q⟩⟩
  | none => exact ⟨_, rfl, _, _, false, rfl, hd.ty, rfl, false, rfl, iteF q⟩
  | bool b => exact ⟨_, rfl, _, _, false, rfl, hd.ty, rfl, false, rfl, iteF q⟩
  | int i => exact ⟨_, rfl, _, _, false, rfl, hd.ty, rfl, false, rfl, iteF q⟩
  | list ds => exact ⟨_, rfl, _, _, false, rfl, hd.ty, rfl, false, rfl, iteF q⟩
  | tuple ds => exact ⟨_, rfl, _, _, false, rfl, hd.ty, rfl, false, rfl, iteF q⟩
  | dict ds => exact ⟨_, rfl, _, _, false, rfl, hd.ty, rfl, false, rfl, iteF q⟩
def spIsWayD : Sp := fun vs H Q _ => ∃ d v, vs = [v] ∧ Dat H d v ∧ ∀ H', Same H H' → Q (.bl (isWayD d)) H'
theorem dat3 {H : Hp} {ds : List PyData} {xs : List V} (h : DatAll H ds xs) (h3 : xs.length = 3) : ∃ s l r x y z, ds = [s, l, r] ∧ xs = [x, y, z] ∧ Dat H s x ∧ Dat H l y ∧ Dat H r z := by
  have hl := h.len
  obtain ⟨x, y, z, rfl⟩ := len3 h3
  obtain ⟨s, l, r, rfl⟩ := len3 (hl.trans h3)
  simp only [DatAll] at h
  obtain ⟨_, _, e1, h1, _, _, e2, h2, _, _, e3, h3, _⟩ := h
  injection e1 with e1 t1; subst t1
  injection e2 with e2 t2; subst t2
  injection e3 with e3 t3
  subst e1 e2 e3
  exact ⟨s, l, r, x, y, z, rfl, rfl, h1, h2, h3⟩
theorem cnt_len {ds : List PyData} (h : ds.length ≠ 3) : cntD (.tuple ds) = none := by
  simp only [cntD]
  match ds, h with
  | [], _ => simp [cntT]
  | [_], _ => simp [cntT]
  | [_, _], _ => simp [cntT]
  | [_, _, _], h => exact absurd rfl h
  | _ :: _ :: _ :: _ :: _, _ => simp [cntT]
theorem cnt_sg {s l r : PyData} (h : sgD s = false) : cntD (.tuple [s, l, r]) = none := by
  simp only [cntD, cntT, h]; rfl
theorem ok_is_wayD {tk : Tok} {aS : Addr} (F : Fun K "is_way" "is_way" s_is_way f fd) (B : Bu K mg) (B' : Co K mg tk aS) (C_is_whole : Cal P w K mg base "is_whole" 1 ["thing"] (spWhole K)) (C_is_sign : Cal P w K mg base "is_sign" 1 ["thing"] spSignD) :
    FnOk P w K mg base CX0 2 f fd ["thing"] spIsWayD := by
  refine F.ok sc_is_way (fun vs H Q E h => ?_) (fun cdv A outer s H vs Q E hr h => ?_)
  · obtain ⟨x, v, rfl, _⟩ := h
    rfl
  obtain ⟨d0, v, rfl, hd0, q⟩ := h
  refine ⟨_, (@pss_cons _ _ _ _ _ (@ps_set _ _ (1) _ _ _ _ (sc_is_way).nd rfl (Or.inl rfl) (@pe_lst _ _ _ _ (@pa_cons _ _ _ _ _ (@pv _ 0 _ _ (by rfl) (by first | exact Or.inl rfl | exact Or.inr ( Or.inl rfl ) | exact Or.inr ( Or.inr rfl )) (by decide) (by decide)) pa_nil (by rfl))) (by rfl) (by first | exact .inl rfl | exact .inr rfl | assumption)) (@pss_cons _ _ _ _ _ (@ps_set _ _ (2) _ _ _ _ (sc_is_way).nd rfl (Or.inl rfl) pe_int (by rfl) (by first | exact .inl rfl | exact .inr rfl | assumption)) (@pss_cons _ _ _ _ _ (@ps_while _ _ _ _ _ _ PassesOwn.never (@PW.pt _ _ _ (@pw_and _ _ _ _ _ _ _ (@pt_truth _ _ _ (@pv _ 1 _ _ (by rfl) (by first | exact Or.inl rfl | exact Or.inr ( Or.inl rfl ) | exact Or.inr ( Or.inr rfl )) (by decide) (by decide)) (fun _ => rfl)) (@pw_and1 _ _ _ _ (@pt_cmpR _ _ _ _ _ _ _ _ op_le (@pe_op _ _ _ _ _ _ _ _ op_add (@pv _ 2 _ _ (by rfl) (by first | exact Or.inl rfl | exact Or.inr ( Or.inl rfl ) | exact Or.inr ( Or.inr rfl )) (by decide) (by decide)) (@pe_callB _ _ _ _ _ _ _ _ _ call_len_seq rfl B.ilen PySem.boot_len (@pa_cons _ _ _ _ _ (@pv _ 1 _ _ (by rfl) (by first | exact Or.inl rfl | exact Or.inr ( Or.inl rfl ) | exact Or.inr ( Or.inr rfl )) (by decide) (by decide)) pa_nil (by rfl)) (by decide) (by decide) (by rfl) (by rfl))) (@pe_glob _ _ (.int 9) _ _ rfl B'.gMOST_NUMBERS ⟨_, rfl⟩ (by decide)) (nomark _))))) (@pss_cons _ _ _ _ _ (@ps_set _ _ (3) _ _ _ _ (sc_is_way).nd rfl (Or.inl rfl) (@pe_bm0 _ _ _ _ _ _ _ _ _ PySem.F.plainAttrs_list PySem.F.slot_list_pop PySem.F.type_list_pop mt_pop (@pv _ 1 _ _ (by rfl) (by first | exact Or.inl rfl | exact Or.inr ( Or.inl rfl ) | exact Or.inr ( Or.inr rfl )) (by decide) (by decide)) (by rfl) (by rfl)) (by rfl) (by first | exact .inl rfl | exact .inr rfl | assumption)) (@pss_one _ _ _ (@ps_if _ _ _ _ _ _ _ _ (@pt_val _ _ _ (@pe_cal _ _ _ _ _ _ _ _ _ _ _ C_is_whole hr (by omega) rfl (@pa_cons _ _ _ _ _ (@pv _ 3 _ _ (by rfl) (by first | exact Or.inl rfl | exact Or.inr ( Or.inl rfl ) | exact Or.inr ( Or.inr rfl )) (by decide) (by decide)) pa_nil (by rfl)) (by decide) (by rfl) (by rfl)) (by intro _; rfl)) (@pss_one _ _ _ (@ps_aug _ _ (2) _ _ _ _ _ _ (sc_is_way).nd rfl (Or.inl rfl) pe_int ip_add (by first | exact .inl rfl | exact .inr rfl | assumption))) (@pss_one _ _ _ (@ps_if _ _ _ _ _ _ _ _ (@PW.pt _ _ _ (@pw_and _ _ _ _ _ _ _ (@pt_val _ _ _ (@pe_callB _ _ _ _ _ _ _ _ _ (@call_isinst _ ("tuple")) rfl B.iisinstance PyProof.Rows.boot_isinstance (@pa_cons _ _ _ _ _ (@pv _ 3 _ _ (by rfl) (by first | exact Or.inl rfl | exact Or.inr ( Or.inl rfl ) | exact Or.inr ( Or.inr rfl )) (by decide) (by decide)) (@pa_cons _ _ _ _ _ (@pe_bltn _ _ (.ty "tuple") _ _ rfl B.ituple PyProof.Rows.boot_tuple rfl (by decide) (by decide)) pa_nil (by rfl)) (by rfl)) (by decide) (by decide) (by rfl) (by rfl)) (by intro _; rfl)) (@pw_and _ _ _ _ _ _ _ (@pt_cmpR _ _ _ _ _ _ _ _ op_eq (@pe_callB _ _ _ _ _ _ _ _ _ call_len_seq rfl B.ilen PySem.boot_len (@pa_cons _ _ _ _ _ (@pv _ 3 _ _ (by rfl) (by first | exact Or.inl rfl | exact Or.inr ( Or.inl rfl ) | exact Or.inr ( Or.inr rfl )) (by decide) (by decide)) pa_nil (by rfl)) (by decide) (by decide) (by rfl) (by rfl)) pe_int (nomark _)) (@pw_and1 _ _ _ _ (@pt_val _ _ _ (@pe_cal _ _ _ _ _ _ _ _ _ _ _ C_is_sign hr (by omega) rfl (@pa_cons _ _ _ _ _ (@pe_ix _ _ _ _ _ _ _ ix_tup (@pv _ 3 _ _ (by rfl) (by first | exact Or.inl rfl | exact Or.inr ( Or.inl rfl ) | exact Or.inr ( Or.inr rfl )) (by decide) (by decide)) pe_int (fun _ _ => rfl)) pa_nil (by rfl)) (by decide) (by rfl) (by rfl)) (by intro _; rfl)))))) (@pss_cons _ _ _ _ _ (@ps_expr _ _ _ _ (@pe_bm _ _ _ _ _ _ _ _ _ _ _ _ PySem.F.plainAttrs_list PySem.F.slot_list_append PySem.F.type_list_append mt_append (@pv _ 1 _ _ (by rfl) (by first | exact Or.inl rfl | exact Or.inr ( Or.inl rfl ) | exact Or.inr ( Or.inr rfl )) (by decide) (by decide)) (@pa_cons _ _ _ _ _ (@pe_ix _ _ _ _ _ _ _ ix_tup (@pv _ 3 _ _ (by rfl) (by first | exact Or.inl rfl | exact Or.inr ( Or.inl rfl ) | exact Or.inr ( Or.inr rfl )) (by decide) (by decide)) pe_int (fun _ _ => rfl)) pa_nil (by rfl)) (by rfl) (by rfl) (by rfl) (by rfl) (by rfl)) (by rfl)) (@pss_one _ _ _ (@ps_expr _ _ _ _ (@pe_bm _ _ _ _ _ _ _ _ _ _ _ _ PySem.F.plainAttrs_list PySem.F.slot_list_append PySem.F.type_list_append mt_append (@pv _ 1 _ _ (by rfl) (by first | exact Or.inl rfl | exact Or.inr ( Or.inl rfl ) | exact Or.inr ( Or.inr rfl )) (by decide) (by decide)) (@pa_cons _ _ _ _ _ (@pe_ix _ _ _ _ _ _ _ ix_tup (@pv _ 3 _ _ (by rfl) (by first | exact Or.inl rfl | exact Or.inr ( Or.inl rfl ) | exact Or.inr ( Or.inr rfl )) (by decide) (by decide)) pe_int (fun _ _ => rfl)) pa_nil (by rfl)) (by rfl) (by rfl) (by rfl) (by rfl) (by rfl)) (by rfl)))) (@pss_one _ _ _ (@ps_ret _ _ _ _ pe_bl)))))))) (@pss_one _ _ _ (@ps_ret _ _ _ _ (pe_notT (pv 1))))))), ?_⟩
  refine ⟨_, rfl, (by show 1 ≤ sizeLine; decide), fun p hp => ?_⟩
  refine ⟨fun m σ H' => ∃ (n : Nat) (ds : List PyData) (vs : List V) (part : Option V), σ = [some v, some (.ref p), some (.int n), part] ∧ H' p = some (.lst vs) ∧ DatAll H ds vs ∧ Same H H' ∧ n ≤ 9 ∧ vs.length ≤ 100 ∧ Left n ds d0 ∧ m = szL ds, ?_, ?_⟩
  · refine ⟨_, 0, [d0], [v], _, rfl, upd_same, DatAll.one hd0, Same.new hp _, by omega, by simp, ?_, rfl⟩
    unfold Left
    have e : tot [d0] = (match cntD d0, some 0 with | some a, some b => some (a + b) | _, _ => none) := rfl
    rw [e]
    cases cntD d0 <;> simp
  rintro m σ H' ⟨n, ds, vs, part, rfl, hH, hall, hS, hn, hvl, hL, rfl⟩
  have hlen := hall.len
  by_cases ne : vs = []
  · subst ne
    have e : ds = [] := List.length_eq_zero_iff.mp hlen
    subst e
    refine ⟨_, rfl, false, .inl ⟨[], SqL.of hH, rfl⟩, iteF (iteF ?_)⟩
    have z := q H' hS
    rw [hL.done, decide_eq_true hn] at z
    exact ⟨_, rfl, false, .inl ⟨[], SqL.of hH, rfl⟩, z⟩
  refine ⟨_, rfl, true, .inl ⟨_, SqL.of hH, by simpa using ne⟩, iteT ⟨_, rfl, _, rfl, p, _, rfl, .inl (SqL.of hH), _, _, rfl, rfl, _, _, rfl, rfl, decide ((n : Int) + (vs.length : Nat) ≤ 9), rfl, ?_⟩⟩
  by_cases c9 : (n : Int) + (vs.length : Nat) ≤ 9
  · refine iteDT c9 ⟨fun σ' H' => ∃ m', m' < szL ds ∧ _, fun _ _ h => h, ?_⟩
    obtain ⟨ds', d, vs', v', rfl, rfl, hall', hd⟩ := hall.last ne
    refine ⟨_, rfl, .inl ⟨rfl, _, SqL.of hH⟩, p, _, v', rfl, rfl, hH, last_at _ _, ?_⟩
    rw [trunc]
    have hp0 : H p = none := hp
    have hS2 : Same H (upd H' p (.lst vs')) := hS.upd hp0
    rw [szL_snoc]
    have zp := szD_pos d
    have hd2 := Dat.mono hS2 d v' hd
    rw [List.length_append, List.length_singleton] at c9
    have bad : cntD d = none → Q (.bl false) (upd H' p (.lst vs')) := fun e => by
      have z := q _ hS2
      rw [hL.bad e] at z; exact z
    cases d with
    | int i =>
      simp only [Dat] at hd2; subst hd2
      refine ⟨_, rfl, _, "int", rfl, .int i, true, rfl, iteT ⟨_, rfl, _, _, rfl, rfl, ?_⟩⟩
      exact ⟨szL ds', by simp only [szD]; omega, n + 1, ds', vs', _, rfl, upd_same, hall', hS2, by omega, by omega, hL.num, rfl⟩
    | tuple xs =>
      have ty := hd2.ty (K := K)
      simp only [Dat] at hd2 hd
      obtain ⟨a, us, rfl, ha, hxs⟩ := hd
      have ha2 : upd H' p (.lst vs') a = some (.tup us) := hS2 _ _ ha
      refine ⟨_, rfl, _, "tuple", rfl, ty, false, rfl, iteF ?_⟩
      refine ⟨_, rfl, _, _, true, rfl, ty, rfl, true, rfl, iteT ⟨_, rfl, a, _, rfl, .inr (SqT.of ha2), rfl, decide (V.int (us.length : Nat) = V.int 3), rfl, ?_⟩⟩
      have lx := hxs.len
      by_cases c3 : us.length = 3
      · obtain ⟨s, l, r, x, y, z, rfl, rfl, h1, h2, h3⟩ := dat3 hxs c3
        refine iteDT rfl ?_
        refine ⟨_, rfl, a, _, _, _, rfl, rfl, SqT.of ha2, rfl, s, x, rfl, Dat.mono hS2 s x h1, sgD s, rfl, ?_⟩
        cases hs : sgD s with
        | true =>
          refine iteT ?_
          refine ⟨_, rfl, .inl ⟨rfl, _, SqL.of upd_same⟩, _, rfl, a, _, _, _, rfl, rfl, SqT.of ha2, rfl, p, _, _, rfl, rfl, upd_same, small1000 (by omega), ?_⟩
          have k1 : Same H (upd (upd H' p (.lst vs')) p (.lst (vs' ++ [y]))) := hS2.upd hp0
          refine ⟨_, rfl, .inl ⟨rfl, _, SqL.of upd_same⟩, _, rfl, a, _, _, _, rfl, rfl, SqT.of (k1 _ _ ha), rfl, p, _, _, rfl, rfl, upd_same, small1000 (by rw [List.length_append, List.length_singleton]; omega), ?_⟩
          refine ⟨szL (ds' ++ [l] ++ [r]), ?_, n, ds' ++ [l] ++ [r], vs' ++ [y] ++ [z], _, rfl, upd_same, (hall'.app (DatAll.one h2)).app (DatAll.one h3), k1.upd hp0, hn, by rw [List.length_append, List.length_append]; simp; omega, hL.node hs, rfl⟩
          rw [szL_snoc, szL_snoc]
          simp only [szD, szAll]
          have := szD_pos s
          omega
        | false => exact iteF (bad (cnt_sg hs))
      · refine iteDF (fun e => c3 (by injection e with e; omega)) (bad (cnt_len (by omega)))
    | none => exact ⟨_, rfl, _, _, rfl, hd2.ty, false, rfl, iteF ⟨_, rfl, _, _, false, rfl, hd2.ty, rfl, false, rfl, iteF (bad (by simp only [cntD]))⟩⟩
    | bool b => exact ⟨_, rfl, _, _, rfl, hd2.ty, false, rfl, iteF ⟨_, rfl, _, _, false, rfl, hd2.ty, rfl, false, rfl, iteF (bad (by simp only [cntD]))⟩⟩
    | str b => exact ⟨_, rfl, _, _, rfl, hd2.ty, false, rfl, iteF ⟨_, rfl, _, _, false, rfl, hd2.ty, rfl, false, rfl, iteF (bad (by simp only [cntD]))⟩⟩
    | list b => exact ⟨_, rfl, _, _, rfl, hd2.ty, false, rfl, iteF ⟨_, rfl, _, _, false, rfl, hd2.ty, rfl, false, rfl, iteF (bad (by simp only [cntD]))⟩⟩
    | dict b => exact ⟨_, rfl, _, _, rfl, hd2.ty, false, rfl, iteF ⟨_, rfl, _, _, false, rfl, hd2.ty, rfl, false, rfl, iteF (bad (by simp only [cntD]))⟩⟩
  · refine iteDF c9 ?_
    have z := q H' hS
    rw [hL.full (by omega)] at z
    exact ⟨_, rfl, true, .inl ⟨_, SqL.of hH, by simpa using ne⟩, z⟩
end
end Put

set_option Elab.async false
set_option linter.all false
set_option maxRecDepth 100000
set_option maxHeartbeats 2000000
namespace Put
open PySem L2
theorem iteNN {c A B : Prop} [Decidable c] (hc : ¬ c) (h : A) : if (!decide c) = true then A else B := by
  rw [decide_eq_false hc]; exact iteT h
section
variable {P : Program} {w : World} {K : PySem.W.Frag} {mg : Str → Option Value} {base : Heap} {f : Addr} {fd : FuncData}
def spLIsWay : Sp := fun vs H Q _ => ∃ d v, vs = [v] ∧ Dat H d v ∧ szD d ≤ 900 ∧ ∀ H', Same H H' → Q (.bl (isWayD d)) H'
def LwInv (H : Hp) (d0 : PyData) (v : V) (m : Nat) (σ : St) (H' : Hp) : Prop := ∃ (n : Nat) (ds : List PyData) (vs : List V) (pw : Addr) (one : Option V), σ = [some v, some (.ref pw), some (.int n), one] ∧ H pw = none ∧ H' pw = some (.lst vs) ∧ DatAll H ds vs ∧ Same H H' ∧ Left n ds d0 ∧ szL ds ≤ 900 ∧ m = szL ds
def spOdd : Sp := fun vs H Q _ => ∃ wl M, vs = [.ref wl] ∧ Wel H wl M ∧ M < 999990000 ∧ ∀ d u H', But wl H H' → Wel H' wl (M + 1) → Dat (off wl H') d u → OkD d → szD d ≤ 10 → d.depth ≤ 3 → Q u H'
abbrev s__law_odd : Stmt := top 41
theorem sc__law_odd : FnScope ["well", "some"] ["well"] (defScope s__law_odd) := ⟨rfl, rfl, rfl, by decide +kernel, rfl, by decide +kernel, by decide +kernel⟩
theorem ok_odd (F : Fun K "_law_odd" "_law_odd" s__law_odd f fd) (C__law_draw : Cal P w K mg base "_law_draw" 2 ["well", "many"] spDraw) : FnOk P w K mg base CX0 3 f fd ["well"] spOdd := by
  refine F.ok sc__law_odd (fun vs H Q E h => ?_) (fun cdv A outer s H vs Q E hr h => ?_)
  · obtain ⟨wl, M, rfl, _⟩ := h
    rfl
  obtain ⟨wl, M, rfl, hw, hM, q⟩ := h
  refine ⟨_, (@pss_cons _ _ _ _ _ (@ps_set _ _ (1) _ _ _ _ (sc__law_odd).nd rfl (Or.inl rfl) (@pe_lst _ _ _ _ (@pa_cons _ _ _ _ _ pe_non (@pa_cons _ _ _ _ _ pe_bl (@pa_cons _ _ _ _ _ pe_bl (@pa_cons _ _ _ _ _ pe_str (@pa_cons _ _ _ _ _ pe_str (@pa_cons _ _ _ _ _ pe_str (@pa_cons _ _ _ _ _ (@pe_lst _ _ _ _ pa_nil) (@pa_cons _ _ _ _ _ (@pe_lst _ _ _ _ (@pa_cons _ _ _ _ _ pe_int pa_nil (by rfl))) (@pa_cons _ _ _ _ _ (@pe_tup _ _ _ _ _ pa_nil) (@pa_cons _ _ _ _ _ (@pe_tup _ _ _ _ _ (@pa_cons _ _ _ _ _ pe_int pa_nil (by rfl))) (@pa_cons _ _ _ _ _ pe_dnewK (@pa_cons _ _ _ _ _ (@pe_tup _ _ _ _ _ (@pa_cons _ _ _ _ _ pe_str (@pa_cons _ _ _ _ _ pe_int pa_nil (by rfl)) (by rfl))) (@pa_cons _ _ _ _ _ (@pe_tup _ _ _ _ _ (@pa_cons _ _ _ _ _ pe_str (@pa_cons _ _ _ _ _ pe_int (@pa_cons _ _ _ _ _ pe_int (@pa_cons _ _ _ _ _ pe_int pa_nil (by rfl)) (by rfl)) (by rfl)) (by rfl))) (@pa_cons _ _ _ _ _ (@pe_lst _ _ _ _ (@pa_cons _ _ _ _ _ pe_str (@pa_cons _ _ _ _ _ pe_int (@pa_cons _ _ _ _ _ pe_int pa_nil (by rfl)) (by rfl)) (by rfl))) (@pa_cons _ _ _ _ _ (@pe_tup _ _ _ _ _ (@pa_cons _ _ _ _ _ pe_int (@pa_cons _ _ _ _ _ pe_str (@pa_cons _ _ _ _ _ pe_int pa_nil (by rfl)) (by rfl)) (by rfl))) pa_nil (by rfl)) (by rfl)) (by rfl)) (by rfl)) (by rfl)) (by rfl)) (by rfl)) (by rfl)) (by rfl)) (by rfl)) (by rfl)) (by rfl)) (by rfl)) (by rfl)) (by rfl))) (by rfl) (by first | exact .inl rfl | exact .inr rfl | assumption)) (@pss_one _ _ _ (@ps_ret _ _ _ _ (@pe_ix _ _ _ _ _ _ _ ix_list (@pv _ 1 _ _ (by rfl) (by first | exact Or.inl rfl | exact Or.inr ( Or.inl rfl ) | exact Or.inr ( Or.inr rfl )) (by decide) (by decide)) (@pe_cal _ _ _ _ _ _ _ _ _ _ _ C__law_draw hr (by omega) rfl (@pa_cons _ _ _ _ _ (@pv _ 0 _ _ (by rfl) (by first | exact Or.inl rfl | exact Or.inr ( Or.inl rfl ) | exact Or.inr ( Or.inr rfl )) (by decide) (by decide)) (@pa_cons _ _ _ _ _ pe_int pa_nil (by rfl)) (by rfl)) (by decide) (by rfl) (by rfl)) (fun _ _ => rfl))))), ?_⟩
  refine ⟨(by show 0 ≤ sizeLine; decide), fun p1 n1 => ⟨(by show 1 ≤ sizeLine; decide), fun p2 n2 => ⟨(by show 0 ≤ sizeLine; decide), fun p3 n3 => ⟨(by show 1 ≤ sizeLine; decide), fun p4 n4 => fun p5 n5 => ⟨(by show 2 ≤ sizeLine; decide), fun p6 n6 => ⟨(by show 4 ≤ sizeLine; decide), fun p7 n7 => ⟨(by show 3 ≤ sizeLine; decide), fun p8 n8 => ⟨(by show 3 ≤ sizeLine; decide), fun p9 n9 => ⟨(by show 15 ≤ sizeLine; decide), fun p10 n10 => ?_⟩⟩⟩⟩⟩⟩⟩⟩⟩
  have k1 := Same.new n1 (.lst [])
  have k2 := Same.new n2 (.lst [.int 3])
  have k3 := Same.new n3 (.tup [])
  have k4 := Same.new n4 (.tup [.int 3])
  have k5 := Same.new n5 (.dK [])
  have k6 := Same.new n6 (.tup [.str "+", .int 1])
  have k7 := Same.new n7 (.tup [.str "+", .int 1, .int 2, .int 3])
  have k8 := Same.new n8 (.lst [.str "+", .int 1, .int 2])
  have k9 := Same.new n9 (.tup [.int 1, .str "+", .int 2])
  have k10 := Same.new n10 (.lst [.non, .bl true, .bl false, .str "", .str "+", .str "3", .ref p1, .ref p2, .ref p3, .ref p4, .ref p5, .ref p6, .ref p7, .ref p8, .ref p9])
  have K1 := k1
  have K2 := K1.trans k2
  have K3 := K2.trans k3
  have K4 := K3.trans k4
  have K5 := K4.trans k5
  have K6 := K5.trans k6
  have K7 := K6.trans k7
  have K8 := K7.trans k8
  have K9 := K8.trans k9
  have K10 := K9.trans k10
  have w1 := hw.ne n1
  have w2 := (hw.keep K1 (Int.le_refl _)).ne n2
  have w3 := (hw.keep K2 (Int.le_refl _)).ne n3
  have w4 := (hw.keep K3 (Int.le_refl _)).ne n4
  have w5 := (hw.keep K4 (Int.le_refl _)).ne n5
  have w6 := (hw.keep K5 (Int.le_refl _)).ne n6
  have w7 := (hw.keep K6 (Int.le_refl _)).ne n7
  have w8 := (hw.keep K7 (Int.le_refl _)).ne n8
  have w9 := (hw.keep K8 (Int.le_refl _)).ne n9
  have w10 := (hw.keep K9 (Int.le_refl _)).ne n10
  have hw10 := hw.keep K10 (Int.le_refl _)
  have e9 := k10 _ _ (upd_same (a := p9))
  have e8 := k10 _ _ (k9 _ _ (upd_same (a := p8)))
  have e7 := k10 _ _ (k9 _ _ (k8 _ _ (upd_same (a := p7))))
  have e6 := k10 _ _ (k9 _ _ (k8 _ _ (k7 _ _ (upd_same (a := p6)))))
  have e5 := k10 _ _ (k9 _ _ (k8 _ _ (k7 _ _ (k6 _ _ (upd_same (a := p5))))))
  have e4 := k10 _ _ (k9 _ _ (k8 _ _ (k7 _ _ (k6 _ _ (k5 _ _ (upd_same (a := p4)))))))
  have e3 := k10 _ _ (k9 _ _ (k8 _ _ (k7 _ _ (k6 _ _ (k5 _ _ (k4 _ _ (upd_same (a := p3))))))))
  have e2 := k10 _ _ (k9 _ _ (k8 _ _ (k7 _ _ (k6 _ _ (k5 _ _ (k4 _ _ (k3 _ _ (upd_same (a := p2)))))))))
  have e1 := k10 _ _ (k9 _ _ (k8 _ _ (k7 _ _ (k6 _ _ (k5 _ _ (k4 _ _ (k3 _ _ (k2 _ _ (upd_same (a := p1))))))))))
  refine ⟨_, rfl, _, rfl, wl, 15, _, rfl, by decide, by decide, hw10, by omega, fun r1 H11 a1 b1 g11 w11 => ?_⟩
  have f1 := (off_ne w1).trans (g11 _ _ w1 e1)
  have f2 := (off_ne w2).trans (g11 _ _ w2 e2)
  have f3 := (off_ne w3).trans (g11 _ _ w3 e3)
  have f4 := (off_ne w4).trans (g11 _ _ w4 e4)
  have f5 := (off_ne w5).trans (g11 _ _ w5 e5)
  have f6 := (off_ne w6).trans (g11 _ _ w6 e6)
  have f7 := (off_ne w7).trans (g11 _ _ w7 e7)
  have f8 := (off_ne w8).trans (g11 _ _ w8 e8)
  have f9 := (off_ne w9).trans (g11 _ _ w9 e9)
  have f10 := g11 _ _ w10 upd_same
  have b11 : But wl H H11 := (But.of K10).trans g11
  have fin : ∀ (d : PyData) (u : V), Dat (off wl H11) d u → OkD d → szD d ≤ 10 → d.depth ≤ 3 → Q u H11 := fun d u h1 h2 h3 h4 => q d u H11 b11 w11 h1 h2 h3 h4
  have cs : r1 = 0 ∨ r1 = 1 ∨ r1 = 2 ∨ r1 = 3 ∨ r1 = 4 ∨ r1 = 5 ∨ r1 = 6 ∨ r1 = 7 ∨ r1 = 8 ∨ r1 = 9 ∨ r1 = 10 ∨ r1 = 11 ∨ r1 = 12 ∨ r1 = 13 ∨ r1 = 14 := by omega
  rcases cs with rfl | rfl | rfl | rfl | rfl | rfl | rfl | rfl | rfl | rfl | rfl | rfl | rfl | rfl | rfl
  · exact ⟨p10, _, _, _, rfl, rfl, SqL.of f10, rfl, fin .none _ (by simp only [Dat]) (by simp only [OkD]) (by simp [szD]) (by simp [PyData.depth])⟩
  · exact ⟨p10, _, _, _, rfl, rfl, SqL.of f10, rfl, fin (.bool true) _ (by simp only [Dat]) (by simp only [OkD]) (by simp [szD]) (by simp [PyData.depth])⟩
  · exact ⟨p10, _, _, _, rfl, rfl, SqL.of f10, rfl, fin (.bool false) _ (by simp only [Dat]) (by simp only [OkD]) (by simp [szD]) (by simp [PyData.depth])⟩
  · exact ⟨p10, _, _, _, rfl, rfl, SqL.of f10, rfl, fin (.str "") _ (by simp only [Dat]) (by simp only [OkD]; decide +kernel) (by simp [szD]) (by simp [PyData.depth])⟩
  · exact ⟨p10, _, _, _, rfl, rfl, SqL.of f10, rfl, fin (.str "+") _ (by simp only [Dat]) (by simp only [OkD]; decide +kernel) (by simp [szD]) (by simp [PyData.depth])⟩
  · exact ⟨p10, _, _, _, rfl, rfl, SqL.of f10, rfl, fin (.str "3") _ (by simp only [Dat]) (by simp only [OkD]; decide +kernel) (by simp [szD]) (by simp [PyData.depth])⟩
  · exact ⟨p10, _, _, _, rfl, rfl, SqL.of f10, rfl, fin (.list []) _ (by simp only [Dat, DatAll]; exact ⟨p1, _, rfl, f1, rfl⟩) (by simp only [OkD, OkAll]) (by simp [szD, szAll]) (by simp [PyData.depth, PyData.depthAll])⟩
  · exact ⟨p10, _, _, _, rfl, rfl, SqL.of f10, rfl, fin (.list [.int 3]) _ (by simp only [Dat, DatAll]; exact ⟨p2, _, rfl, f2, _, _, rfl, rfl, rfl⟩) (by simp only [OkD, OkAll]; decide) (by simp [szD, szAll]) (by simp [PyData.depth, PyData.depthAll])⟩
  · exact ⟨p10, _, _, _, rfl, rfl, SqL.of f10, rfl, fin (.tuple []) _ (by simp only [Dat, DatAll]; exact ⟨p3, _, rfl, f3, rfl⟩) (by simp only [OkD, OkAll]) (by simp [szD, szAll]) (by simp [PyData.depth, PyData.depthAll])⟩
  · exact ⟨p10, _, _, _, rfl, rfl, SqL.of f10, rfl, fin (.tuple [.int 3]) _ (by simp only [Dat, DatAll]; exact ⟨p4, _, rfl, f4, _, _, rfl, rfl, rfl⟩) (by simp only [OkD, OkAll]; decide) (by simp [szD, szAll]) (by simp [PyData.depth, PyData.depthAll])⟩
  · exact ⟨p10, _, _, _, rfl, rfl, SqL.of f10, rfl, fin (.dict []) _ (by simp only [Dat, DatKv]; exact ⟨p5, _, rfl, f5, rfl⟩) (by simp only [OkD]) (by simp [szD]) (by simp [PyData.depth, PyData.depthKv])⟩
  · exact ⟨p10, _, _, _, rfl, rfl, SqL.of f10, rfl, fin (.tuple [.str "+", .int 1]) _ (by simp only [Dat, DatAll]; exact ⟨p6, _, rfl, f6, _, _, rfl, rfl, _, _, rfl, rfl, rfl⟩) (by simp only [OkD, OkAll]; decide +kernel) (by simp [szD, szAll]) (by simp [PyData.depth, PyData.depthAll])⟩
  · exact ⟨p10, _, _, _, rfl, rfl, SqL.of f10, rfl, fin (.tuple [.str "+", .int 1, .int 2, .int 3]) _ (by simp only [Dat, DatAll]; exact ⟨p7, _, rfl, f7, _, _, rfl, rfl, _, _, rfl, rfl, _, _, rfl, rfl, _, _, rfl, rfl, rfl⟩) (by simp only [OkD, OkAll]; decide +kernel) (by simp [szD, szAll]) (by simp [PyData.depth, PyData.depthAll])⟩
  · exact ⟨p10, _, _, _, rfl, rfl, SqL.of f10, rfl, fin (.list [.str "+", .int 1, .int 2]) _ (by simp only [Dat, DatAll]; exact ⟨p8, _, rfl, f8, _, _, rfl, rfl, _, _, rfl, rfl, _, _, rfl, rfl, rfl⟩) (by simp only [OkD, OkAll]; decide +kernel) (by simp [szD, szAll]) (by simp [PyData.depth, PyData.depthAll])⟩
  · exact ⟨p10, _, _, _, rfl, rfl, SqL.of f10, rfl, fin (.tuple [.int 1, .str "+", .int 2]) _ (by simp only [Dat, DatAll]; exact ⟨p9, _, rfl, f9, _, _, rfl, rfl, _, _, rfl, rfl, _, _, rfl, rfl, rfl⟩) (by simp only [OkD, OkAll]; decide +kernel) (by simp [szD, szAll]) (by simp [PyData.depth, PyData.depthAll])⟩
end
end Put

set_option Elab.async false
set_option linter.all false
set_option maxRecDepth 100000
set_option maxHeartbeats 4000000
namespace Put
open PySem L2
/-! ### ways as things -/
def wyDat : Wy → PyData
  | .num i => .int i
  | .node g l r => .tuple [.str g.str, wyDat l, wyDat r]
theorem WyIn.off {H : Hp} {wl : Addr} {M : Int} (hw : Wel H wl M) : ∀ {w : Wy} {v : V}, WyIn H w v → Dat (off wl H) (wyDat w) v
  | .num i, v, h => by
    simp only [wyDat, Dat]; exact h
  | .node g l r, v, h => by
    obtain ⟨a, vl, vr, rfl, ha, hl, hr⟩ := h
    have ne : a ≠ wl := fun e => by
      obtain ⟨_, _, _, z, _⟩ := hw
      rw [e, z] at ha; cases ha
    simp only [wyDat, Dat, DatAll]
    exact ⟨a, _, rfl, (off_ne ne).trans ha, _, _, rfl, rfl, _, _, rfl, WyIn.off hw hl, _, _, rfl, WyIn.off hw hr, rfl⟩
theorem wy_depth : ∀ w : Wy, (wyDat w).depth ≤ w.deep
  | .num i => by simp [wyDat, PyData.depth]
  | .node g l r => by
    have a := wy_depth l; have b := wy_depth r
    simp only [wyDat, PyData.depth, PyData.depthAll]
    show max 0 (max (wyDat l).depth (max (wyDat r).depth 0)) + 1 ≤ max l.deep r.deep + 1
    omega
theorem wy_sz : ∀ w : Wy, szD (wyDat w) + 2 ≤ 3 * w.size
  | .num i => by simp [wyDat, szD, Wy.size]
  | .node g l r => by
    have a := wy_sz l; have b := wy_sz r
    simp only [wyDat, szD, szAll]
    show _ ≤ 3 * (l.size + r.size)
    omega
def Wy.Sm (w : Wy) : Prop := ∀ i ∈ w.nums, i.natAbs < 10 ^ 13
theorem Wy.Sm.l {g : Sg} {l r : Wy} (h : (Wy.node g l r).Sm) : l.Sm := fun i hi => h i (List.mem_append_left _ hi)
theorem Wy.Sm.r {g : Sg} {l r : Wy} (h : (Wy.node g l r).Sm) : r.Sm := fun i hi => h i (List.mem_append_right _ hi)
theorem sg_ok (g : Sg) : OkD (.str g.str) := by simp only [OkD]; cases g <;> decide +kernel
theorem wy_ok : ∀ w : Wy, w.Sm → OkD (wyDat w)
  | .num i, h => by simp only [wyDat, OkD]; exact h i List.mem_cons_self
  | .node g l r, h => by
    simp only [wyDat, OkD, OkAll]
    exact ⟨by simpa only [OkD] using sg_ok g, wy_ok l h.l, wy_ok r h.r, trivial⟩
theorem small_sm {ns : List Int} {w : Wy} (h : Small ns) (e : w.nums = ns) : w.Sm := fun i hi => by
  rw [e] at hi
  have := h i hi
  have z : (10 : Nat) ^ 13 = 10000000000000 := by decide
  omega
theorem off_upd {wl p : Addr} {H : Hp} {o : HO} (h : p ≠ wl) : off wl (upd H p o) p = some o := (off_ne h).trans upd_same
theorem off_new {wl p : Addr} {H : Hp} {o : HO} (h : H p = none) : Same (off wl H) (off wl (upd H p o)) := off_but (But.new h o)
section
variable {P : Program} {w : World} {K : PySem.W.Frag} {mg : Str → Option Value} {base : Heap} {f : Addr} {fd : FuncData}
def spBad (n : Nat) : Sp := fun vs H Q _ => ∃ wl w v M, vs = [.ref wl, v] ∧ WyIn H w v ∧ w.deep ≤ n ∧ n ≤ 20 ∧ w.Sm ∧ Wel H wl M ∧ M + 5 * n < 999980000 ∧
  ∀ d u H', But wl H H' → Wel H' wl (M + 5 * n) → Dat (off wl H') d u → OkD d → szD d ≤ 3 * w.size + 20 → d.depth ≤ w.deep + 4 → Q u H'
abbrev s__law_bad_way : Stmt := top 42
theorem sc__law_bad_way : FnScope ["well", "way", "sign", "left", "right", "kind", "bad", "some"] ["well", "way"] (defScope s__law_bad_way) := ⟨rfl, rfl, rfl, by decide +kernel, rfl, by decide +kernel, by decide +kernel⟩
theorem ok_bad (F : Fun K "_law_bad_way" "_law_bad_way" s__law_bad_way f fd) (bF : Binds K fd ["well", "way"] []) (mF : mg "_law_bad_way" = some (.ref f)) (B : Bu K mg) (C__law_draw : Cal P w K mg base "_law_draw" 2 ["well", "many"] spDraw) (C__law_odd : Cal P w K mg base "_law_odd" 3 ["well"] spOdd) :
    ∀ n, FnOk P w K mg base CX0 (n + 3) f fd ["well", "way"] (spBad n) := by
  intro n
  induction n with
  | zero =>
    refine ⟨fun vs H Q E h => ?_, fun A outer s H args us vs Q E _ _ _ _ h => ?_⟩
    · obtain ⟨wl, x, v, M, rfl, _⟩ := h
      rfl
    · obtain ⟨wl, wy, v, M, _, _, hd, _⟩ := h
      cases wy <;> exact absurd hd (by simp [Wy.deep])
  | succ n ih =>
    have C__law_bad_way : Cal P w K mg base "_law_bad_way" (n + 3) ["well", "way"] (spBad n) := ⟨f, fd, ih, bF, F.kp, mF⟩
    refine F.ok sc__law_bad_way (fun vs H Q E h => ?_) (fun cdv A outer s H vs Q E hr h => ?_)
    · obtain ⟨wl, x, v, M, rfl, _⟩ := h
      rfl
    obtain ⟨wl, wy, v, M, rfl, hw, hdp, hn, hsm, hwl, hM, q⟩ := h
    refine ⟨_, (@pss_cons _ _ _ _ _ (@ps_if _ _ _ _ _ _ _ _ (@PW.pt _ _ _ (@pw_or _ _ _ _ _ _ _ (@pt_not _ _ _ _ (@pt_val _ _ _ (@pe_callB _ _ _ _ _ _ _ _ _ (@call_isinst _ ("tuple")) rfl B.iisinstance PyProof.Rows.boot_isinstance (@pa_cons _ _ _ _ _ (@pv _ 1 _ _ (by rfl) (by first | exact Or.inl rfl | exact Or.inr ( Or.inl rfl ) | exact Or.inr ( Or.inr rfl )) (by decide) (by decide)) (@pa_cons _ _ _ _ _ (@pe_bltn _ _ (.ty "tuple") _ _ rfl B.ituple PyProof.Rows.boot_tuple rfl (by decide) (by decide)) pa_nil (by rfl)) (by rfl)) (by decide) (by decide) (by rfl) (by rfl)) (by intro _; rfl))) (@pw_or1 _ _ _ _ (@pt_cmpR _ _ _ _ _ _ _ _ op_eq (@pe_cal _ _ _ _ _ _ _ _ _ _ _ C__law_draw hr (by omega) rfl (@pa_cons _ _ _ _ _ (@pv _ 0 _ _ (by rfl) (by first | exact Or.inl rfl | exact Or.inr ( Or.inl rfl ) | exact Or.inr ( Or.inr rfl )) (by decide) (by decide)) (@pa_cons _ _ _ _ _ pe_int pa_nil (by rfl)) (by rfl)) (by decide) (by rfl) (by rfl)) pe_int (nomark _))))) (@pss_one _ _ _ (@ps_ret _ _ _ _ (@pe_cal _ _ _ _ _ _ _ _ _ _ _ C__law_odd hr (by omega) rfl (@pa_cons _ _ _ _ _ (@pv _ 0 _ _ (by rfl) (by first | exact Or.inl rfl | exact Or.inr ( Or.inl rfl ) | exact Or.inr ( Or.inr rfl )) (by decide) (by decide)) pa_nil (by rfl)) (by decide) (by rfl) (by rfl)))) pss_nil) (@pss_cons _ _ _ _ _ (@ps_asg _ _ _ _ _ _ (@pv _ 1 _ _ (by rfl) (by first | exact Or.inl rfl | exact Or.inr ( Or.inl rfl ) | exact Or.inr ( Or.inr rfl )) (by decide) (by decide)) (@pg_tup _ _ _ _ _ _ rfl (@pgs_cons _ _ _ _ _ (@pg_name _ _ (2) _ (sc__law_bad_way).nd rfl (Or.inl rfl) (by first | exact .inl rfl | exact .inr rfl | assumption)) (@pgs_cons _ _ _ _ _ (@pg_name _ _ (3) _ (sc__law_bad_way).nd rfl (Or.inl rfl) (by first | exact .inl rfl | exact .inr rfl | assumption)) (@pgs_cons _ _ _ _ _ (@pg_name _ _ (4) _ (sc__law_bad_way).nd rfl (Or.inl rfl) (by first | exact .inl rfl | exact .inr rfl | assumption)) pgs_nil (by rfl)) (by rfl)) (by rfl)) (by rfl) (by rfl)) (by rfl) (by rfl) (by rfl)) (@pss_cons _ _ _ _ _ (@ps_set _ _ (5) _ _ _ _ (sc__law_bad_way).nd rfl (Or.inl rfl) (@pe_cal _ _ _ _ _ _ _ _ _ _ _ C__law_draw hr (by omega) rfl (@pa_cons _ _ _ _ _ (@pv _ 0 _ _ (by rfl) (by first | exact Or.inl rfl | exact Or.inr ( Or.inl rfl ) | exact Or.inr ( Or.inr rfl )) (by decide) (by decide)) (@pa_cons _ _ _ _ _ pe_int pa_nil (by rfl)) (by rfl)) (by decide) (by rfl) (by rfl)) (by rfl) (by first | exact .inl rfl | exact .inr rfl | assumption)) (@pss_cons _ _ _ _ _ (@ps_if _ _ _ _ _ _ _ _ (@pt_cmpR _ _ _ _ _ _ _ _ op_lt (@pv _ 5 _ _ (by rfl) (by first | exact Or.inl rfl | exact Or.inr ( Or.inl rfl ) | exact Or.inr ( Or.inr rfl )) (by decide) (by decide)) pe_int (nomark _)) (@pss_one _ _ _ (@ps_ret _ _ _ _ (@pe_tup _ _ _ _ _ (@pa_cons _ _ _ _ _ (@pv _ 2 _ _ (by rfl) (by first | exact Or.inl rfl | exact Or.inr ( Or.inl rfl ) | exact Or.inr ( Or.inr rfl )) (by decide) (by decide)) (@pa_cons _ _ _ _ _ (@pe_cal _ _ _ _ _ _ _ _ _ _ _ C__law_bad_way hr (by omega) rfl (@pa_cons _ _ _ _ _ (@pv _ 0 _ _ (by rfl) (by first | exact Or.inl rfl | exact Or.inr ( Or.inl rfl ) | exact Or.inr ( Or.inr rfl )) (by decide) (by decide)) (@pa_cons _ _ _ _ _ (@pv _ 3 _ _ (by rfl) (by first | exact Or.inl rfl | exact Or.inr ( Or.inl rfl ) | exact Or.inr ( Or.inr rfl )) (by decide) (by decide)) pa_nil (by rfl)) (by rfl)) (by decide) (by rfl) (by rfl)) (@pa_cons _ _ _ _ _ (@pv _ 4 _ _ (by rfl) (by first | exact Or.inl rfl | exact Or.inr ( Or.inl rfl ) | exact Or.inr ( Or.inr rfl )) (by decide) (by decide)) pa_nil (by rfl)) (by rfl)) (by rfl))))) pss_nil) (@pss_cons _ _ _ _ _ (@ps_if _ _ _ _ _ _ _ _ (@pt_cmpR _ _ _ _ _ _ _ _ op_lt (@pv _ 5 _ _ (by rfl) (by first | exact Or.inl rfl | exact Or.inr ( Or.inl rfl ) | exact Or.inr ( Or.inr rfl )) (by decide) (by decide)) pe_int (nomark _)) (@pss_one _ _ _ (@ps_ret _ _ _ _ (@pe_tup _ _ _ _ _ (@pa_cons _ _ _ _ _ (@pv _ 2 _ _ (by rfl) (by first | exact Or.inl rfl | exact Or.inr ( Or.inl rfl ) | exact Or.inr ( Or.inr rfl )) (by decide) (by decide)) (@pa_cons _ _ _ _ _ (@pv _ 3 _ _ (by rfl) (by first | exact Or.inl rfl | exact Or.inr ( Or.inl rfl ) | exact Or.inr ( Or.inr rfl )) (by decide) (by decide)) (@pa_cons _ _ _ _ _ (@pe_cal _ _ _ _ _ _ _ _ _ _ _ C__law_bad_way hr (by omega) rfl (@pa_cons _ _ _ _ _ (@pv _ 0 _ _ (by rfl) (by first | exact Or.inl rfl | exact Or.inr ( Or.inl rfl ) | exact Or.inr ( Or.inr rfl )) (by decide) (by decide)) (@pa_cons _ _ _ _ _ (@pv _ 4 _ _ (by rfl) (by first | exact Or.inl rfl | exact Or.inr ( Or.inl rfl ) | exact Or.inr ( Or.inr rfl )) (by decide) (by decide)) pa_nil (by rfl)) (by rfl)) (by decide) (by rfl) (by rfl)) pa_nil (by rfl)) (by rfl)) (by rfl))))) pss_nil) (@pss_cons _ _ _ _ _ (@ps_set _ _ (6) _ _ _ _ (sc__law_bad_way).nd rfl (Or.inl rfl) (@pe_ix _ _ _ _ _ _ _ ix_list (@pe_lst _ _ _ _ (@pa_cons _ _ _ _ _ pe_str (@pa_cons _ _ _ _ _ pe_str (@pa_cons _ _ _ _ _ pe_str (@pa_cons _ _ _ _ _ pe_str (@pa_cons _ _ _ _ _ pe_str (@pa_cons _ _ _ _ _ pe_str (@pa_cons _ _ _ _ _ pe_non (@pa_cons _ _ _ _ _ pe_int (@pa_cons _ _ _ _ _ (@pe_tup _ _ _ _ _ (@pa_cons _ _ _ _ _ pe_str pa_nil (by rfl))) (@pa_cons _ _ _ _ _ (@pe_lst _ _ _ _ (@pa_cons _ _ _ _ _ pe_str pa_nil (by rfl))) pa_nil (by rfl)) (by rfl)) (by rfl)) (by rfl)) (by rfl)) (by rfl)) (by rfl)) (by rfl)) (by rfl)) (by rfl))) (@pe_cal _ _ _ _ _ _ _ _ _ _ _ C__law_draw hr (by omega) rfl (@pa_cons _ _ _ _ _ (@pv _ 0 _ _ (by rfl) (by first | exact Or.inl rfl | exact Or.inr ( Or.inl rfl ) | exact Or.inr ( Or.inr rfl )) (by decide) (by decide)) (@pa_cons _ _ _ _ _ pe_int pa_nil (by rfl)) (by rfl)) (by decide) (by rfl) (by rfl)) (fun _ _ => rfl)) (by rfl) (by first | exact .inl rfl | exact .inr rfl | assumption)) (@pss_cons _ _ _ _ _ (@ps_set _ _ (7) _ _ _ _ (sc__law_bad_way).nd rfl (Or.inl rfl) (@pe_lst _ _ _ _ (@pa_cons _ _ _ _ _ (@pe_tup _ _ _ _ _ (@pa_cons _ _ _ _ _ (@pv _ 6 _ _ (by rfl) (by first | exact Or.inl rfl | exact Or.inr ( Or.inl rfl ) | exact Or.inr ( Or.inr rfl )) (by decide) (by decide)) (@pa_cons _ _ _ _ _ (@pv _ 3 _ _ (by rfl) (by first | exact Or.inl rfl | exact Or.inr ( Or.inl rfl ) | exact Or.inr ( Or.inr rfl )) (by decide) (by decide)) (@pa_cons _ _ _ _ _ (@pv _ 4 _ _ (by rfl) (by first | exact Or.inl rfl | exact Or.inr ( Or.inl rfl ) | exact Or.inr ( Or.inr rfl )) (by decide) (by decide)) pa_nil (by rfl)) (by rfl)) (by rfl))) (@pa_cons _ _ _ _ _ (@pe_lst _ _ _ _ (@pa_cons _ _ _ _ _ (@pv _ 2 _ _ (by rfl) (by first | exact Or.inl rfl | exact Or.inr ( Or.inl rfl ) | exact Or.inr ( Or.inr rfl )) (by decide) (by decide)) (@pa_cons _ _ _ _ _ (@pv _ 3 _ _ (by rfl) (by first | exact Or.inl rfl | exact Or.inr ( Or.inl rfl ) | exact Or.inr ( Or.inr rfl )) (by decide) (by decide)) (@pa_cons _ _ _ _ _ (@pv _ 4 _ _ (by rfl) (by first | exact Or.inl rfl | exact Or.inr ( Or.inl rfl ) | exact Or.inr ( Or.inr rfl )) (by decide) (by decide)) pa_nil (by rfl)) (by rfl)) (by rfl))) (@pa_cons _ _ _ _ _ (@pe_tup _ _ _ _ _ (@pa_cons _ _ _ _ _ (@pv _ 2 _ _ (by rfl) (by first | exact Or.inl rfl | exact Or.inr ( Or.inl rfl ) | exact Or.inr ( Or.inr rfl )) (by decide) (by decide)) (@pa_cons _ _ _ _ _ (@pv _ 3 _ _ (by rfl) (by first | exact Or.inl rfl | exact Or.inr ( Or.inl rfl ) | exact Or.inr ( Or.inr rfl )) (by decide) (by decide)) pa_nil (by rfl)) (by rfl))) (@pa_cons _ _ _ _ _ (@pe_tup _ _ _ _ _ (@pa_cons _ _ _ _ _ (@pv _ 2 _ _ (by rfl) (by first | exact Or.inl rfl | exact Or.inr ( Or.inl rfl ) | exact Or.inr ( Or.inr rfl )) (by decide) (by decide)) (@pa_cons _ _ _ _ _ (@pv _ 3 _ _ (by rfl) (by first | exact Or.inl rfl | exact Or.inr ( Or.inl rfl ) | exact Or.inr ( Or.inr rfl )) (by decide) (by decide)) (@pa_cons _ _ _ _ _ (@pv _ 4 _ _ (by rfl) (by first | exact Or.inl rfl | exact Or.inr ( Or.inl rfl ) | exact Or.inr ( Or.inr rfl )) (by decide) (by decide)) (@pa_cons _ _ _ _ _ pe_int pa_nil (by rfl)) (by rfl)) (by rfl)) (by rfl))) (@pa_cons _ _ _ _ _ (@pe_tup _ _ _ _ _ (@pa_cons _ _ _ _ _ (@pv _ 3 _ _ (by rfl) (by first | exact Or.inl rfl | exact Or.inr ( Or.inl rfl ) | exact Or.inr ( Or.inr rfl )) (by decide) (by decide)) (@pa_cons _ _ _ _ _ (@pv _ 2 _ _ (by rfl) (by first | exact Or.inl rfl | exact Or.inr ( Or.inl rfl ) | exact Or.inr ( Or.inr rfl )) (by decide) (by decide)) (@pa_cons _ _ _ _ _ (@pv _ 4 _ _ (by rfl) (by first | exact Or.inl rfl | exact Or.inr ( Or.inl rfl ) | exact Or.inr ( Or.inr rfl )) (by decide) (by decide)) pa_nil (by rfl)) (by rfl)) (by rfl))) pa_nil (by rfl)) (by rfl)) (by rfl)) (by rfl)) (by rfl))) (by rfl) (by first | exact .inl rfl | exact .inr rfl | assumption)) (@pss_one _ _ _ (@ps_ret _ _ _ _ (@pe_ix _ _ _ _ _ _ _ ix_list (@pv _ 7 _ _ (by rfl) (by first | exact Or.inl rfl | exact Or.inr ( Or.inl rfl ) | exact Or.inr ( Or.inr rfl )) (by decide) (by decide)) (@pe_ix _ _ _ _ _ _ _ ix_list (@pe_lst _ _ _ _ (@pa_cons _ _ _ _ _ pe_int (@pa_cons _ _ _ _ _ pe_int (@pa_cons _ _ _ _ _ pe_int (@pa_cons _ _ _ _ _ pe_int (@pa_cons _ _ _ _ _ pe_int (@pa_cons _ _ _ _ _ pe_int pa_nil (by rfl)) (by rfl)) (by rfl)) (by rfl)) (by rfl)) (by rfl))) (@pe_cal _ _ _ _ _ _ _ _ _ _ _ C__law_draw hr (by omega) rfl (@pa_cons _ _ _ _ _ (@pv _ 0 _ _ (by rfl) (by first | exact Or.inl rfl | exact Or.inr ( Or.inl rfl ) | exact Or.inr ( Or.inr rfl )) (by decide) (by decide)) (@pa_cons _ _ _ _ _ pe_int pa_nil (by rfl)) (by rfl)) (by decide) (by rfl) (by rfl)) (fun _ _ => rfl)) (fun _ _ => rfl))))))))))), ?_⟩
    cases wy with
    | num i =>
      cases hw
      refine ⟨_, rfl, _, _, false, rfl, .int i, rfl, false, rfl, iteT ?_⟩
      refine iteT ⟨_, rfl, wl, M, rfl, hwl, by omega, fun d u H' b' w' hd ok sz dp => q d u H' b' (w'.more (by omega)) hd ok ?_ ?_⟩
      · show szD d ≤ 3 * 1 + 20; omega
      · show d.depth ≤ 1 + 4; omega
    | node g l r =>
      obtain ⟨a, vl, vr, rfl, ha, hl, hr'⟩ := hw
      have dd : max l.deep r.deep + 1 ≤ n + 1 := hdp
      have ez : (Wy.node g l r).size = l.size + r.size := rfl
      have ed : (Wy.node g l r).deep = max l.deep r.deep + 1 := rfl
      rw [ez, ed] at q
      have wl1 := wy_sz l; have wr1 := wy_sz r
      have dl1 := wy_depth l; have dr1 := wy_depth r
      have okl := wy_ok l hsm.l; have okr := wy_ok r hsm.r
      refine ⟨_, rfl, _, _, true, rfl, .tup ha, rfl, true, rfl, iteF ?_⟩
      refine ⟨_, rfl, wl, 4, M, rfl, by decide, by decide, hwl, by omega, fun r1 H1 a1 b1 g1 w1 => ⟨rfl, _, rfl, ite2 (fun _ => ?_) (fun _ => ?_)⟩⟩
      · exact ⟨_, rfl, wl, _, rfl, w1, by omega, fun d u H' b' w' hd ok sz dp => q d u H' (g1.trans b') (w'.more (by omega)) hd ok (by omega) (by omega)⟩
      have t1 := hwl.tups g1
      have ha1 := t1 _ _ ha
      refine ⟨_, rfl, a, _, rfl, SqT.of ha1, rfl, _, _, rfl, _, _, rfl, _, _, rfl, rfl, ?_⟩
      refine ⟨_, rfl, wl, 12, _, rfl, by decide, by decide, w1, by omega, fun r2 H2 a2 b2 g2 w2 => ?_⟩
      have t2 := t1.trans (w1.tups g2)
      have hl2 := hl.mono t2
      have hr2 := hr'.mono t2
      have G2 := g1.trans g2
      have sgok := sg_ok g
      refine ⟨_, rfl, _, _, rfl, rfl, _, rfl, ite2 (fun _ => ?_) (fun _ => ?_)⟩
      · refine ⟨_, rfl, _, rfl, _, rfl, wl, l, vl, _, rfl, hl2, by omega, by omega, hsm.l, w2, by omega, fun d u H3 g3 w3 hd ok sz dp => ?_⟩
        refine ⟨_, rfl, (by show 3 ≤ sizeLine; decide), fun p np => ?_⟩
        have npw := w3.ne np
        have hr3 := WyIn.off w3 (hr2.mono (w2.tups g3))
        refine q (.tuple [.str g.str, d, wyDat r]) (.ref p) _ ((G2.trans g3).trans (But.new np _)) ((w3.keep (Same.new np _) (Int.le_refl _)).more (by omega)) ?_ ?_ ?_ ?_
        · simp only [Dat, DatAll]
          exact ⟨p, _, rfl, off_upd npw, _, _, rfl, rfl, _, _, rfl, Dat.mono (off_new np) d u hd, _, _, rfl, Dat.mono (off_new np) _ _ hr3, rfl⟩
        · simp only [OkD, OkAll] at sgok ⊢
          exact ⟨sgok, ok, okr, trivial⟩
        · simp only [szD, szAll]; omega
        · simp only [PyData.depth, PyData.depthAll]; omega
      refine ⟨_, rfl, _, _, rfl, rfl, _, rfl, ite2 (fun _ => ?_) (fun _ => ?_)⟩
      · refine ⟨_, rfl, _, rfl, _, rfl, _, rfl, wl, r, vr, _, rfl, hr2, by omega, by omega, hsm.r, w2, by omega, fun d u H3 g3 w3 hd ok sz dp => ?_⟩
        refine ⟨(by show 3 ≤ sizeLine; decide), fun p np => ?_⟩
        have npw := w3.ne np
        have hl3 := WyIn.off w3 (hl2.mono (w2.tups g3))
        refine q (.tuple [.str g.str, wyDat l, d]) (.ref p) _ ((G2.trans g3).trans (But.new np _)) ((w3.keep (Same.new np _) (Int.le_refl _)).more (by omega)) ?_ ?_ ?_ ?_
        · simp only [Dat, DatAll]
          exact ⟨p, _, rfl, off_upd npw, _, _, rfl, rfl, _, _, rfl, Dat.mono (off_new np) _ _ hl3, _, _, rfl, Dat.mono (off_new np) d u hd, rfl⟩
        · simp only [OkD, OkAll] at sgok ⊢
          exact ⟨sgok, okl, ok, trivial⟩
        · simp only [szD, szAll]; omega
        · simp only [PyData.depth, PyData.depthAll]; omega
      -- a bad sign
      refine ⟨(by show 1 ≤ sizeLine; decide), fun c1 m1 => ⟨(by show 1 ≤ sizeLine; decide), fun c2 m2 => ⟨(by show 10 ≤ sizeLine; decide), fun c3 m3 => ?_⟩⟩⟩
      have k1 := Same.new m1 (.tup [.str "+"])
      have k2 := Same.new m2 (.lst [.str "+"])
      have k3 := Same.new m3 (.lst [.str "/", .str "++", .str "", .str "x", .str " +", .str "+-", .non, .int 1, .ref c1, .ref c2])
      have nc1 := w2.ne m1
      have nc2 := (w2.keep k1 (Int.le_refl _)).ne m2
      have nc3 := (w2.keep (k1.trans k2) (Int.le_refl _)).ne m3
      have w3 := w2.keep ((k1.trans k2).trans k3) (Int.le_refl _)
      have ec1 := k3 _ _ (k2 _ _ (upd_same (H := H2) (a := c1) (o := .tup [.str "+"])))
      have ec2 := k3 _ _ (upd_same (H := upd H2 c1 (.tup [.str "+"])) (a := c2) (o := .lst [.str "+"]))
      refine ⟨_, rfl, wl, 10, _, rfl, by decide, by decide, w3, by omega, fun r3 H4 a3 b3 g4 w4 => ?_⟩
      have f1 := (off_ne nc1).trans (g4 _ _ nc1 ec1)
      have f2 := (off_ne nc2).trans (g4 _ _ nc2 ec2)
      have f3 := g4 _ _ nc3 upd_same
      have hb : ∃ bd bv, atI [V.str "/", .str "++", .str "", .str "x", .str " +", .str "+-", .non, .int 1, .ref c1, .ref c2] r3 = some bv ∧ Dat (off wl H4) bd bv ∧ OkD bd ∧ szD bd ≤ 2 ∧ bd.depth ≤ 1 := by
        have cs : r3 = 0 ∨ r3 = 1 ∨ r3 = 2 ∨ r3 = 3 ∨ r3 = 4 ∨ r3 = 5 ∨ r3 = 6 ∨ r3 = 7 ∨ r3 = 8 ∨ r3 = 9 := by omega
        rcases cs with rfl | rfl | rfl | rfl | rfl | rfl | rfl | rfl | rfl | rfl
        · exact ⟨.str "/", _, rfl, by simp only [Dat], by simp only [OkD]; decide +kernel, by simp [szD], by simp [PyData.depth]⟩
        · exact ⟨.str "++", _, rfl, by simp only [Dat], by simp only [OkD]; decide +kernel, by simp [szD], by simp [PyData.depth]⟩
        · exact ⟨.str "", _, rfl, by simp only [Dat], by simp only [OkD]; decide +kernel, by simp [szD], by simp [PyData.depth]⟩
        · exact ⟨.str "x", _, rfl, by simp only [Dat], by simp only [OkD]; decide +kernel, by simp [szD], by simp [PyData.depth]⟩
        · exact ⟨.str " +", _, rfl, by simp only [Dat], by simp only [OkD]; decide +kernel, by simp [szD], by simp [PyData.depth]⟩
        · exact ⟨.str "+-", _, rfl, by simp only [Dat], by simp only [OkD]; decide +kernel, by simp [szD], by simp [PyData.depth]⟩
        · exact ⟨.none, _, rfl, by simp only [Dat], by simp only [OkD], by simp [szD], by simp [PyData.depth]⟩
        · exact ⟨.int 1, _, rfl, by simp only [Dat], by simp only [OkD]; decide, by simp [szD], by simp [PyData.depth]⟩
        · exact ⟨.tuple [.str "+"], _, rfl, by simp only [Dat, DatAll]; exact ⟨c1, _, rfl, f1, _, _, rfl, rfl, rfl⟩, by simp only [OkD, OkAll]; decide +kernel, by simp [szD, szAll], by simp [PyData.depth, PyData.depthAll]⟩
        · exact ⟨.list [.str "+"], _, rfl, by simp only [Dat, DatAll]; exact ⟨c2, _, rfl, f2, _, _, rfl, rfl, rfl⟩, by simp only [OkD, OkAll]; decide +kernel, by simp [szD, szAll], by simp [PyData.depth, PyData.depthAll]⟩
      obtain ⟨bd, bv, hat, hbd, bok, bsz, bdp⟩ := hb
      refine ⟨c3, _, _, _, rfl, rfl, SqL.of f3, hat, ?_⟩
      have G4 : But wl H H4 := (G2.trans (But.of ((k1.trans k2).trans k3))).trans g4
      have t4 := (w2.tups (But.of ((k1.trans k2).trans k3))).trans (w3.tups g4)
      have ol := WyIn.off w4 (hl2.mono t4)
      have or' := WyIn.off w4 (hr2.mono t4)
      -- the five
      refine ⟨_, rfl, _, rfl, _, rfl, (by show 3 ≤ sizeLine; decide), fun s1 x1 => ⟨_, rfl, _, rfl, _, rfl, (by show 3 ≤ sizeLine; decide), fun s2 x2 => ⟨_, rfl, _, rfl, (by show 2 ≤ sizeLine; decide), fun s3 x3 => ⟨_, rfl, _, rfl, _, rfl, (by show 4 ≤ sizeLine; decide), fun s4 x4 => ⟨_, rfl, _, rfl, _, rfl, (by show 3 ≤ sizeLine; decide), fun s5 x5 => ⟨(by show 5 ≤ sizeLine; decide), fun s6 x6 => ?_⟩⟩⟩⟩⟩⟩
      have y1 := Same.new x1 (.tup [bv, vl, vr])
      have y2 := Same.new x2 (.lst [.str g.str, vl, vr])
      have y3 := Same.new x3 (.tup [.str g.str, vl])
      have y4 := Same.new x4 (.tup [.str g.str, vl, vr, .int 0])
      have y5 := Same.new x5 (.tup [vl, .str g.str, vr])
      have y6 := Same.new x6 (.lst [.ref s1, .ref s2, .ref s3, .ref s4, .ref s5])
      have Y2 := y1.trans y2
      have Y3 := Y2.trans y3
      have Y4 := Y3.trans y4
      have Y5 := Y4.trans y5
      have Y6 := Y5.trans y6
      have v1 := w4.ne x1
      have v2 := (w4.keep y1 (Int.le_refl _)).ne x2
      have v3 := (w4.keep Y2 (Int.le_refl _)).ne x3
      have v4 := (w4.keep Y3 (Int.le_refl _)).ne x4
      have v5 := (w4.keep Y4 (Int.le_refl _)).ne x5
      have v6 := (w4.keep Y5 (Int.le_refl _)).ne x6
      have u5 := y6 _ _ (upd_same (a := s5))
      have u4 := y6 _ _ (y5 _ _ (upd_same (a := s4)))
      have u3 := y6 _ _ (y5 _ _ (y4 _ _ (upd_same (a := s3))))
      have u2 := y6 _ _ (y5 _ _ (y4 _ _ (y3 _ _ (upd_same (a := s2)))))
      have u1 := y6 _ _ (y5 _ _ (y4 _ _ (y3 _ _ (y2 _ _ (upd_same (a := s1))))))
      have w6 := w4.keep Y6 (Int.le_refl _)
      have u6 := fun h : True => upd_same (H := upd (upd (upd (upd (upd H4 s1 (.tup [bv, vl, vr])) s2 (.lst [.str g.str, vl, vr])) s3 (.tup [.str g.str, vl])) s4 (.tup [.str g.str, vl, vr, .int 0])) s5 (.tup [vl, .str g.str, vr])) (a := s6) (o := .lst [.ref s1, .ref s2, .ref s3, .ref s4, .ref s5])
      have u6 := u6 trivial
      revert u1 u2 u3 u4 u5 u6 w6 Y6
      generalize upd (upd (upd (upd (upd (upd H4 s1 (.tup [bv, vl, vr])) s2 (.lst [.str g.str, vl, vr])) s3 (.tup [.str g.str, vl])) s4 (.tup [.str g.str, vl, vr, .int 0])) s5 (.tup [vl, .str g.str, vr])) s6 (.lst [.ref s1, .ref s2, .ref s3, .ref s4, .ref s5]) = H6
      intro Y6 u5 u4 u3 u2 u1 w6 u6
      refine ⟨_, rfl, (by show 6 ≤ sizeLine; decide), fun s7 x7 => ?_⟩
      have y7 := Same.new x7 (.lst [.int 0, .int 0, .int 1, .int 2, .int 3, .int 4])
      have v7 := w6.ne x7
      have w7 := w6.keep y7 (Int.le_refl _)
      refine ⟨_, rfl, wl, 6, _, rfl, by decide, by decide, w7, by omega, fun r4 H8 a4 b4 g8 w8 => ?_⟩
      have h8 : But wl H H8 := ((G4.trans (But.of Y6)).trans (But.of y7)).trans g8
      have S8 : Same (off wl H4) (off wl H8) := off_but (((But.of Y6).trans (But.of y7)).trans g8)
      have z1 := (off_ne v1).trans (g8 _ _ v1 (y7 _ _ u1))
      have z2 := (off_ne v2).trans (g8 _ _ v2 (y7 _ _ u2))
      have z3 := (off_ne v3).trans (g8 _ _ v3 (y7 _ _ u3))
      have z4 := (off_ne v4).trans (g8 _ _ v4 (y7 _ _ u4))
      have z5 := (off_ne v5).trans (g8 _ _ v5 (y7 _ _ u5))
      have z6 := g8 _ _ v6 (y7 _ _ u6)
      have z7 := g8 _ _ v7 upd_same
      have dl8 := Dat.mono S8 _ _ ol
      have dr8 := Dat.mono S8 _ _ or'
      have db8 := Dat.mono S8 _ _ hbd
      have w9 := w8.more (show _ ≤ M + 5 * ((n + 1 : Nat) : Int) by omega)
      have c1' : ∀ (z : Int), atI [V.int 0, .int 0, .int 1, .int 2, .int 3, .int 4] r4 = some (.int z) → z = 0 ∨ z = 1 ∨ z = 2 ∨ z = 3 ∨ z = 4 → ∃ d u, atI [V.ref s1, .ref s2, .ref s3, .ref s4, .ref s5] z = some u ∧ Dat (off wl H8) d u ∧ OkD d ∧ szD d ≤ 3 * (l.size + r.size) + 20 ∧ d.depth ≤ max l.deep r.deep + 1 + 4 := fun z _ hz => by
        simp only [OkD] at sgok
        rcases hz with rfl | rfl | rfl | rfl | rfl
        · refine ⟨.tuple [bd, wyDat l, wyDat r], _, rfl, ?_, ?_, ?_, ?_⟩
          · simp only [Dat, DatAll]; exact ⟨s1, _, rfl, z1, _, _, rfl, db8, _, _, rfl, dl8, _, _, rfl, dr8, rfl⟩
          · simp only [OkD, OkAll]; exact ⟨bok, okl, okr, trivial⟩
          · simp only [szD, szAll]; omega
          · simp only [PyData.depth, PyData.depthAll]; omega
        · refine ⟨.list [.str g.str, wyDat l, wyDat r], _, rfl, ?_, ?_, ?_, ?_⟩
          · simp only [Dat, DatAll]; exact ⟨s2, _, rfl, z2, _, _, rfl, rfl, _, _, rfl, dl8, _, _, rfl, dr8, rfl⟩
          · simp only [OkD, OkAll]; exact ⟨sgok, okl, okr, trivial⟩
          · simp only [szD, szAll]; omega
          · simp only [PyData.depth, PyData.depthAll]; omega
        · refine ⟨.tuple [.str g.str, wyDat l], _, rfl, ?_, ?_, ?_, ?_⟩
          · simp only [Dat, DatAll]; exact ⟨s3, _, rfl, z3, _, _, rfl, rfl, _, _, rfl, dl8, rfl⟩
          · simp only [OkD, OkAll]; exact ⟨sgok, okl, trivial⟩
          · simp only [szD, szAll]; omega
          · simp only [PyData.depth, PyData.depthAll]; omega
        · refine ⟨.tuple [.str g.str, wyDat l, wyDat r, .int 0], _, rfl, ?_, ?_, ?_, ?_⟩
          · simp only [Dat, DatAll]; exact ⟨s4, _, rfl, z4, _, _, rfl, rfl, _, _, rfl, dl8, _, _, rfl, dr8, _, _, rfl, rfl, rfl⟩
          · simp only [OkD, OkAll]; exact ⟨sgok, okl, okr, by decide, trivial⟩
          · simp only [szD, szAll]; omega
          · simp only [PyData.depth, PyData.depthAll]; omega
        · refine ⟨.tuple [wyDat l, .str g.str, wyDat r], _, rfl, ?_, ?_, ?_, ?_⟩
          · simp only [Dat, DatAll]; exact ⟨s5, _, rfl, z5, _, _, rfl, dl8, _, _, rfl, rfl, _, _, rfl, dr8, rfl⟩
          · simp only [OkD, OkAll]; exact ⟨okl, sgok, okr, trivial⟩
          · simp only [szD, szAll]; omega
          · simp only [PyData.depth, PyData.depthAll]; omega
      have ix : ∃ z : Int, atI [V.int 0, .int 0, .int 1, .int 2, .int 3, .int 4] r4 = some (.int z) ∧ (z = 0 ∨ z = 1 ∨ z = 2 ∨ z = 3 ∨ z = 4) := by
        have cs : r4 = 0 ∨ r4 = 1 ∨ r4 = 2 ∨ r4 = 3 ∨ r4 = 4 ∨ r4 = 5 := by omega
        rcases cs with rfl | rfl | rfl | rfl | rfl | rfl
        · exact ⟨0, rfl, by omega⟩
        · exact ⟨0, rfl, by omega⟩
        · exact ⟨1, rfl, by omega⟩
        · exact ⟨2, rfl, by omega⟩
        · exact ⟨3, rfl, by omega⟩
        · exact ⟨4, rfl, by omega⟩
      obtain ⟨z, hz1, hz2⟩ := ix
      obtain ⟨d, u, hu, hdd, hok, hsz, hdep⟩ := c1' z hz1 hz2
      refine ⟨s7, _, _, _, rfl, rfl, SqL.of z7, hz1, ?_⟩
      refine ⟨s6, _, _, _, rfl, rfl, SqL.of z6, hu, ?_⟩
      exact q d u H8 h8 w9 hdd hok hsz hdep
end
end Put

set_option Elab.async false
set_option linter.all false
set_option maxRecDepth 100000
set_option maxHeartbeats 2000000
namespace Put
open PySem L2
/-! ### worths -/
def Sg.op : Sg → Int → Int → Int
  | .plus, a, b => a + b
  | .minus, a, b => a - b
  | .times, a, b => a * b
def Wy.worth : Wy → Int
  | .num i => i
  | .node g l r => g.op l.worth r.worth
theorem add_bd {a b : Int} {m n k : Nat} (ha : a.natAbs < 2 ^ m) (hb : b.natAbs < 2 ^ n) (hm : m < k) (hn : n < k) : (a + b).natAbs < 2 ^ k := by
  have h1 : 2 ^ m ≤ 2 ^ (k - 1) := Nat.pow_le_pow_right (by decide) (by omega)
  have h2 : 2 ^ n ≤ 2 ^ (k - 1) := Nat.pow_le_pow_right (by decide) (by omega)
  have h3 : 2 ^ k = 2 * 2 ^ (k - 1) := by
    have : k = (k - 1) + 1 := by omega
    rw [this, Nat.pow_succ, Nat.add_sub_cancel]; omega
  have := Int.natAbs_add_le a b
  omega
theorem neg_bd {a : Int} {m : Nat} (ha : a.natAbs < 2 ^ m) : (-a).natAbs < 2 ^ m := by rw [Int.natAbs_neg]; exact ha
theorem sub_bd {a b : Int} {m n k : Nat} (ha : a.natAbs < 2 ^ m) (hb : b.natAbs < 2 ^ n) (hm : m < k) (hn : n < k) : (a - b).natAbs < 2 ^ k := by
  rw [Int.sub_eq_add_neg]; exact add_bd ha (neg_bd hb) hm hn
theorem mul_bd {a b : Int} {m n : Nat} (ha : a.natAbs < 2 ^ m) (hb : b.natAbs < 2 ^ n) : (a * b).natAbs < 2 ^ (m + n) := by
  rw [Int.natAbs_mul, Nat.pow_add]
  exact Nat.mul_lt_mul_of_lt_of_le ha (Nat.le_of_lt hb) (Nat.pow_pos (by decide))
theorem up_bd {a : Int} {m n : Nat} (ha : a.natAbs < 2 ^ m) (h : m ≤ n) : a.natAbs < 2 ^ n := Nat.lt_of_lt_of_le ha (Nat.pow_le_pow_right (by decide) h)
theorem op_bd (g : Sg) {a b : Int} {m n k : Nat} (ha : a.natAbs < 2 ^ m) (hb : b.natAbs < 2 ^ n) (h : m + n + 1 ≤ k) : (g.op a b).natAbs < 2 ^ k := by
  cases g with
  | plus => exact add_bd ha hb (by omega) (by omega)
  | minus => exact sub_bd ha hb (by omega) (by omega)
  | times => exact up_bd (mul_bd ha hb) (by omega)
def Wy.Bd (w : Wy) : Prop := ∀ i ∈ w.nums, i.natAbs < 2 ^ 131
theorem Wy.Bd.l {g : Sg} {l r : Wy} (h : (Wy.node g l r).Bd) : l.Bd := fun i hi => h i (List.mem_append_left _ hi)
theorem Wy.Bd.r {g : Sg} {l r : Wy} (h : (Wy.node g l r).Bd) : r.Bd := fun i hi => h i (List.mem_append_right _ hi)
theorem Wy.worth_bd : ∀ w : Wy, w.Bd → w.worth.natAbs < 2 ^ (132 * w.size - 1)
  | .num i, h => h i List.mem_cons_self
  | .node g l r, h => by
    have zl := l.size_pos; have zr := r.size_pos
    show (g.op l.worth r.worth).natAbs < 2 ^ (132 * (l.size + r.size) - 1)
    exact op_bd g (l.worth_bd h.l) (r.worth_bd h.r) (by omega)
/-! ### how a worth hangs on a number -/
def Wy.tp : Wy → Int → Int × Int
  | .num i, p => if p = 0 then (1, 0) else (0, i)
  | .node .times l r, p => ((l.tp p).1 * (r.tp (p - l.size)).2 + (l.tp p).2 * (r.tp (p - l.size)).1, (l.tp p).2 * (r.tp (p - l.size)).2)
  | .node .plus l r, p => ((l.tp p).1 + (r.tp (p - l.size)).1, (l.tp p).2 + (r.tp (p - l.size)).2)
  | .node .minus l r, p => ((l.tp p).1 - (r.tp (p - l.size)).1, (l.tp p).2 - (r.tp (p - l.size)).2)
def Wy.put : Wy → Int → Int → Wy
  | .num i, p, n => if p = 0 then .num n else .num i
  | .node g l r, p, n => .node g (l.put p n) (r.put (p - l.size) n)
theorem Wy.tp_bd : ∀ (w : Wy) (p : Int), w.Bd → (w.tp p).1.natAbs < 2 ^ (132 * w.size - 1) ∧ (w.tp p).2.natAbs < 2 ^ (132 * w.size - 1)
  | .num i, p, h => by
    have hi := h i List.mem_cons_self
    unfold Wy.tp
    split
    · exact ⟨by show (1 : Nat) < 2 ^ 131; decide, by show (0 : Nat) < 2 ^ 131; decide⟩
    · exact ⟨by show (0 : Nat) < 2 ^ 131; decide, hi⟩
  | .node g l r, p, h => by
    have zl := l.size_pos; have zr := r.size_pos
    have a := l.tp_bd p h.l
    have b := r.tp_bd (p - l.size) h.r
    have e : (Wy.node g l r).size = l.size + r.size := rfl
    rw [e]
    cases g with
    | plus => exact ⟨add_bd a.1 b.1 (by omega) (by omega), add_bd a.2 b.2 (by omega) (by omega)⟩
    | minus => exact ⟨sub_bd a.1 b.1 (by omega) (by omega), sub_bd a.2 b.2 (by omega) (by omega)⟩
    | times => exact ⟨add_bd (mul_bd a.1 b.2) (mul_bd a.2 b.1) (by omega) (by omega), up_bd (mul_bd a.2 b.2) (by omega)⟩
section
variable {P : Program} {w : World} {K : PySem.W.Frag} {mg : Str → Option Value} {base : Heap} {f : Addr} {fd : FuncData}
def spNeedWhole : Sp := fun vs H Q _ => ∃ i, vs = [.int i] ∧ Q .non H
def spPutSign : Sp := fun vs H Q _ => ∃ a g b, vs = [.int a, .str (Sg.str g), .int b] ∧ a.natAbs < 2 ^ 4000 ∧ b.natAbs < 2 ^ 4000 ∧ Q (.int (g.op a b)) H
abbrev s_put_sign : Stmt := top 28
theorem sc_put_sign : FnScope ["left", "sign", "right"] ["left", "sign", "right"] (defScope s_put_sign) := ⟨rfl, rfl, rfl, by decide +kernel, rfl, by decide +kernel, by decide +kernel⟩
theorem ok_put_sign (F : Fun K "put_sign" "put_sign" s_put_sign f fd) : FnOk P w K mg base CX0 1 f fd ["left", "sign", "right"] spPutSign := by
  refine F.ok sc_put_sign (fun vs H Q E h => ?_) (fun cdv A outer s H vs Q E hr h => ?_)
  · obtain ⟨a, g, b, rfl, _⟩ := h
    rfl
  obtain ⟨a, g, b, rfl, ha, hb, q⟩ := h
  refine ⟨_, (@pss_cons _ _ _ _ _ (@ps_if _ _ _ _ _ _ _ _ (@pt_cmpR _ _ _ _ _ _ _ _ op_eq (@pv _ 1 _ _ (by rfl) (by first | exact Or.inl rfl | exact Or.inr ( Or.inl rfl ) | exact Or.inr ( Or.inr rfl )) (by decide) (by decide)) pe_str (nomark _)) (@pss_one _ _ _ (@ps_ret _ _ _ _ (@pe_op _ _ _ _ _ _ _ _ op_add (@pv _ 0 _ _ (by rfl) (by first | exact Or.inl rfl | exact Or.inr ( Or.inl rfl ) | exact Or.inr ( Or.inr rfl )) (by decide) (by decide)) (@pv _ 2 _ _ (by rfl) (by first | exact Or.inl rfl | exact Or.inr ( Or.inl rfl ) | exact Or.inr ( Or.inr rfl )) (by decide) (by decide))))) pss_nil) (@pss_cons _ _ _ _ _ (@ps_if _ _ _ _ _ _ _ _ (@pt_cmpR _ _ _ _ _ _ _ _ op_eq (@pv _ 1 _ _ (by rfl) (by first | exact Or.inl rfl | exact Or.inr ( Or.inl rfl ) | exact Or.inr ( Or.inr rfl )) (by decide) (by decide)) pe_str (nomark _)) (@pss_one _ _ _ (@ps_ret _ _ _ _ (@pe_op _ _ _ _ _ _ _ _ op_sub (@pv _ 0 _ _ (by rfl) (by first | exact Or.inl rfl | exact Or.inr ( Or.inl rfl ) | exact Or.inr ( Or.inr rfl )) (by decide) (by decide)) (@pv _ 2 _ _ (by rfl) (by first | exact Or.inl rfl | exact Or.inr ( Or.inl rfl ) | exact Or.inr ( Or.inr rfl )) (by decide) (by decide))))) pss_nil) (@pss_one _ _ _ (@ps_ret _ _ _ _ (@pe_op _ _ _ _ _ _ _ _ op_mulB (@pv _ 0 _ _ (by rfl) (by first | exact Or.inl rfl | exact Or.inr ( Or.inl rfl ) | exact Or.inr ( Or.inr rfl )) (by decide) (by decide)) (@pv _ 2 _ _ (by rfl) (by first | exact Or.inl rfl | exact Or.inr ( Or.inl rfl ) | exact Or.inr ( Or.inr rfl )) (by decide) (by decide))))))), ?_⟩
  cases g with
  | plus => exact ⟨_, rfl, rfl, _, rfl, iteDT rfl ⟨_, rfl, _, rfl, _, _, rfl, rfl, q⟩⟩
  | minus => exact ⟨_, rfl, rfl, _, rfl, iteDF (by decide +kernel) ⟨_, rfl, rfl, _, rfl, iteDT rfl ⟨_, rfl, _, rfl, _, _, rfl, rfl, q⟩⟩⟩
  | times => exact ⟨_, rfl, rfl, _, rfl, iteDF (by decide +kernel) ⟨_, rfl, rfl, _, rfl, iteDF (by decide +kernel) ⟨_, rfl, _, rfl, _, _, rfl, rfl, ⟨ha, hb⟩, q⟩⟩⟩
theorem big {a : Int} {m : Nat} (h : a.natAbs < 2 ^ (132 * m - 1)) (hm : m ≤ 20) : a.natAbs < 2 ^ 4000 := up_bd h (by omega)
def spWorth (n : Nat) : Sp := fun vs H Q _ => ∃ w v, vs = [v] ∧ WyIn H w v ∧ w.size ≤ 20 ∧ w.deep ≤ n ∧ w.Bd ∧ Q (.int w.worth) H
abbrev s_find_worth : Stmt := top 29
theorem sc_find_worth : FnScope ["way", "sign", "left", "right"] ["way"] (defScope s_find_worth) := ⟨rfl, rfl, rfl, by decide +kernel, rfl, by decide +kernel, by decide +kernel⟩
theorem ok_find_worth (F : Fun K "find_worth" "find_worth" s_find_worth f fd) (bF : Binds K fd ["way"] []) (mF : mg "find_worth" = some (.ref f)) (C_is_whole : Cal P w K mg base "is_whole" 1 ["thing"] (spWhole K)) (C_put_sign : Cal P w K mg base "put_sign" 1 ["left", "sign", "right"] spPutSign) :
    ∀ n, FnOk P w K mg base CX0 (n + 1) f fd ["way"] (spWorth n) := by
  intro n
  induction n with
  | zero =>
    refine ⟨fun vs H Q E h => ?_, fun A outer s H args us vs Q E _ _ _ _ h => ?_⟩
    · obtain ⟨x, v, rfl, _⟩ := h
      rfl
    · obtain ⟨wy, v, _, _, _, hd, _⟩ := h
      cases wy <;> exact absurd hd (by simp [Wy.deep])
  | succ n ih =>
    have C_find_worth : Cal P w K mg base "find_worth" (n + 1) ["way"] (spWorth n) := ⟨f, fd, ih, bF, F.kp, mF⟩
    refine F.ok sc_find_worth (fun vs H Q E h => ?_) (fun cdv A outer s H vs Q E hr h => ?_)
    · obtain ⟨x, v, rfl, _⟩ := h
      rfl
    obtain ⟨wy, v, rfl, hw, h20, hd, hB, q⟩ := h
    refine ⟨_, (@pss_cons _ _ _ _ _ (@ps_if _ _ _ _ _ _ _ _ (@pt_val _ _ _ (@pe_cal _ _ _ _ _ _ _ _ _ _ _ C_is_whole hr (by omega) rfl (@pa_cons _ _ _ _ _ (@pv _ 0 _ _ (by rfl) (by first | exact Or.inl rfl | exact Or.inr ( Or.inl rfl ) | exact Or.inr ( Or.inr rfl )) (by decide) (by decide)) pa_nil (by rfl)) (by decide) (by rfl) (by rfl)) (by intro _; rfl)) (@pss_one _ _ _ (@ps_ret _ _ _ _ (@pv _ 0 _ _ (by rfl) (by first | exact Or.inl rfl | exact Or.inr ( Or.inl rfl ) | exact Or.inr ( Or.inr rfl )) (by decide) (by decide)))) pss_nil) (@pss_cons _ _ _ _ _ (@ps_asg _ _ _ _ _ _ (@pv _ 0 _ _ (by rfl) (by first | exact Or.inl rfl | exact Or.inr ( Or.inl rfl ) | exact Or.inr ( Or.inr rfl )) (by decide) (by decide)) (@pg_tup _ _ _ _ _ _ rfl (@pgs_cons _ _ _ _ _ (@pg_name _ _ (1) _ (sc_find_worth).nd rfl (Or.inl rfl) (by first | exact .inl rfl | exact .inr rfl | assumption)) (@pgs_cons _ _ _ _ _ (@pg_name _ _ (2) _ (sc_find_worth).nd rfl (Or.inl rfl) (by first | exact .inl rfl | exact .inr rfl | assumption)) (@pgs_cons _ _ _ _ _ (@pg_name _ _ (3) _ (sc_find_worth).nd rfl (Or.inl rfl) (by first | exact .inl rfl | exact .inr rfl | assumption)) pgs_nil (by rfl)) (by rfl)) (by rfl)) (by rfl) (by rfl)) (by rfl) (by rfl) (by rfl)) (@pss_one _ _ _ (@ps_ret _ _ _ _ (@pe_cal _ _ _ _ _ _ _ _ _ _ _ C_put_sign hr (by omega) rfl (@pa_cons _ _ _ _ _ (@pe_cal _ _ _ _ _ _ _ _ _ _ _ C_find_worth hr (by omega) rfl (@pa_cons _ _ _ _ _ (@pv _ 2 _ _ (by rfl) (by first | exact Or.inl rfl | exact Or.inr ( Or.inl rfl ) | exact Or.inr ( Or.inr rfl )) (by decide) (by decide)) pa_nil (by rfl)) (by decide) (by rfl) (by rfl)) (@pa_cons _ _ _ _ _ (@pv _ 1 _ _ (by rfl) (by first | exact Or.inl rfl | exact Or.inr ( Or.inl rfl ) | exact Or.inr ( Or.inr rfl )) (by decide) (by decide)) (@pa_cons _ _ _ _ _ (@pe_cal _ _ _ _ _ _ _ _ _ _ _ C_find_worth hr (by omega) rfl (@pa_cons _ _ _ _ _ (@pv _ 3 _ _ (by rfl) (by first | exact Or.inl rfl | exact Or.inr ( Or.inl rfl ) | exact Or.inr ( Or.inr rfl )) (by decide) (by decide)) pa_nil (by rfl)) (by decide) (by rfl) (by rfl)) pa_nil (by rfl)) (by rfl)) (by rfl)) (by decide) (by rfl) (by rfl)))))), ?_⟩
    cases wy with
    | num i =>
      cases hw
      exact ⟨_, rfl, _, "int", rfl, .int i, true, rfl, iteT ⟨_, rfl, q⟩⟩
    | node g l r =>
      obtain ⟨a, vl, vr, rfl, ha, hl, hr'⟩ := hw
      refine ⟨_, rfl, _, "tuple", rfl, .tup ha, false, rfl, iteF ?_⟩
      have d : max l.deep r.deep + 1 ≤ n + 1 := hd
      have z : l.size + r.size ≤ 20 := h20
      have zl := l.size_pos; have zr := r.size_pos
      refine ⟨_, rfl, a, _, rfl, SqT.of ha, rfl, _, _, rfl, _, _, rfl, _, _, rfl, rfl, ?_⟩
      refine ⟨_, rfl, l, vl, rfl, hl, by omega, by omega, hB.l, ?_⟩
      refine ⟨_, rfl, _, rfl, r, vr, rfl, hr', by omega, by omega, hB.r, ?_⟩
      exact ⟨_, g, _, rfl, big (l.worth_bd hB.l) (by omega), big (r.worth_bd hB.r) (by omega), q⟩
def spWorthOf : Sp := fun vs H Q _ => ∃ w v, vs = [v] ∧ WyIn H w v ∧ w.size ≤ 9 ∧ w.Bd ∧ ∀ H', Same H H' → Q (.int w.worth) H'
def spNeedPlace : Sp := fun vs H Q _ => ∃ w v p, vs = [v, .int p] ∧ WyIn H w v ∧ w.size ≤ 20 ∧ 0 ≤ p ∧ p < w.size ∧ ∀ H', Same H H' → Q .non H'
def spTp (n : Nat) : Sp := fun vs H Q _ => ∃ w v p, vs = [v, .int p] ∧ WyIn H w v ∧ w.size ≤ 20 ∧ w.deep ≤ n ∧ w.Bd ∧ ∀ a H', Same H H' → H a = none → H' a = some (.tup [.int (w.tp p).1, .int (w.tp p).2]) → Q (.ref a) H'
abbrev s_times_and_plus : Stmt := top 31
theorem sc_times_and_plus : FnScope ["way", "place", "sign", "left", "right", "left_times", "left_plus", "right_times", "right_plus"] ["way", "place"] (defScope s_times_and_plus) := ⟨rfl, rfl, rfl, by decide +kernel, rfl, by decide +kernel, by decide +kernel⟩
theorem ok_tp (F : Fun K "times_and_plus" "times_and_plus" s_times_and_plus f fd) (bF : Binds K fd ["way", "place"] []) (mF : mg "times_and_plus" = some (.ref f)) (B : Bu K mg) (C_is_whole : Cal P w K mg base "is_whole" 1 ["thing"] (spWhole K)) (C_put_sign : Cal P w K mg base "put_sign" 1 ["left", "sign", "right"] spPutSign)
    (C_list_numbers : Cal P w K mg base "list_numbers" 21 ["way"] (spNums 20)) : ∀ n, FnOk P w K mg base CX0 (n + 22) f fd ["way", "place"] (spTp n) := by
  intro n
  induction n with
  | zero =>
    refine ⟨fun vs H Q E h => ?_, fun A outer s H args us vs Q E _ _ _ _ h => ?_⟩
    · obtain ⟨x, v, p, rfl, _⟩ := h
      rfl
    · obtain ⟨wy, v, p, _, _, _, hd, _⟩ := h
      cases wy <;> exact absurd hd (by simp [Wy.deep])
  | succ n ih =>
    have C_times_and_plus : Cal P w K mg base "times_and_plus" (n + 22) ["way", "place"] (spTp n) := ⟨f, fd, ih, bF, F.kp, mF⟩
    refine F.ok sc_times_and_plus (fun vs H Q E h => ?_) (fun cdv A outer s H vs Q E hr h => ?_)
    · obtain ⟨x, v, p, rfl, _⟩ := h
      rfl
    obtain ⟨wy, v, p, rfl, hw, h20, hd, hB, q⟩ := h
    refine ⟨_, (@pss_cons _ _ _ _ _ (@ps_if _ _ _ _ _ _ _ _ (@pt_val _ _ _ (@pe_cal _ _ _ _ _ _ _ _ _ _ _ C_is_whole hr (by omega) rfl (@pa_cons _ _ _ _ _ (@pv _ 0 _ _ (by rfl) (by first | exact Or.inl rfl | exact Or.inr ( Or.inl rfl ) | exact Or.inr ( Or.inr rfl )) (by decide) (by decide)) pa_nil (by rfl)) (by decide) (by rfl) (by rfl)) (by intro _; rfl)) (@pss_one _ _ _ (@ps_ret _ _ _ _ (@pe_ifExp _ _ _ _ _ _ _ _ (@pt_cmpR _ _ _ _ _ _ _ _ op_eq (@pv _ 1 _ _ (by rfl) (by first | exact Or.inl rfl | exact Or.inr ( Or.inl rfl ) | exact Or.inr ( Or.inr rfl )) (by decide) (by decide)) pe_int (nomark _)) (@pe_tup _ _ _ _ _ (@pa_cons _ _ _ _ _ pe_int (@pa_cons _ _ _ _ _ pe_int pa_nil (by rfl)) (by rfl))) (@pe_tup _ _ _ _ _ (@pa_cons _ _ _ _ _ pe_int (@pa_cons _ _ _ _ _ (@pv _ 0 _ _ (by rfl) (by first | exact Or.inl rfl | exact Or.inr ( Or.inl rfl ) | exact Or.inr ( Or.inr rfl )) (by decide) (by decide)) pa_nil (by rfl)) (by rfl)))))) pss_nil) (@pss_cons _ _ _ _ _ (@ps_asg _ _ _ _ _ _ (@pv _ 0 _ _ (by rfl) (by first | exact Or.inl rfl | exact Or.inr ( Or.inl rfl ) | exact Or.inr ( Or.inr rfl )) (by decide) (by decide)) (@pg_tup _ _ _ _ _ _ rfl (@pgs_cons _ _ _ _ _ (@pg_name _ _ (2) _ (sc_times_and_plus).nd rfl (Or.inl rfl) (by first | exact .inl rfl | exact .inr rfl | assumption)) (@pgs_cons _ _ _ _ _ (@pg_name _ _ (3) _ (sc_times_and_plus).nd rfl (Or.inl rfl) (by first | exact .inl rfl | exact .inr rfl | assumption)) (@pgs_cons _ _ _ _ _ (@pg_name _ _ (4) _ (sc_times_and_plus).nd rfl (Or.inl rfl) (by first | exact .inl rfl | exact .inr rfl | assumption)) pgs_nil (by rfl)) (by rfl)) (by rfl)) (by rfl) (by rfl)) (by rfl) (by rfl) (by rfl)) (@pss_cons _ _ _ _ _ (@ps_asg _ _ _ _ _ _ (@pe_cal _ _ _ _ _ _ _ _ _ _ _ C_times_and_plus hr (by omega) rfl (@pa_cons _ _ _ _ _ (@pv _ 3 _ _ (by rfl) (by first | exact Or.inl rfl | exact Or.inr ( Or.inl rfl ) | exact Or.inr ( Or.inr rfl )) (by decide) (by decide)) (@pa_cons _ _ _ _ _ (@pv _ 1 _ _ (by rfl) (by first | exact Or.inl rfl | exact Or.inr ( Or.inl rfl ) | exact Or.inr ( Or.inr rfl )) (by decide) (by decide)) pa_nil (by rfl)) (by rfl)) (by decide) (by rfl) (by rfl)) (@pg_tup _ _ _ _ _ _ rfl (@pgs_cons _ _ _ _ _ (@pg_name _ _ (5) _ (sc_times_and_plus).nd rfl (Or.inl rfl) (by first | exact .inl rfl | exact .inr rfl | assumption)) (@pgs_cons _ _ _ _ _ (@pg_name _ _ (6) _ (sc_times_and_plus).nd rfl (Or.inl rfl) (by first | exact .inl rfl | exact .inr rfl | assumption)) pgs_nil (by rfl)) (by rfl)) (by rfl) (by rfl)) (by rfl) (by rfl) (by rfl)) (@pss_cons _ _ _ _ _ (@ps_asg _ _ _ _ _ _ (@pe_cal _ _ _ _ _ _ _ _ _ _ _ C_times_and_plus hr (by omega) rfl (@pa_cons _ _ _ _ _ (@pv _ 4 _ _ (by rfl) (by first | exact Or.inl rfl | exact Or.inr ( Or.inl rfl ) | exact Or.inr ( Or.inr rfl )) (by decide) (by decide)) (@pa_cons _ _ _ _ _ (@pe_op _ _ _ _ _ _ _ _ op_sub (@pv _ 1 _ _ (by rfl) (by first | exact Or.inl rfl | exact Or.inr ( Or.inl rfl ) | exact Or.inr ( Or.inr rfl )) (by decide) (by decide)) (@pe_callB _ _ _ _ _ _ _ _ _ call_len_seq rfl B.ilen PySem.boot_len (@pa_cons _ _ _ _ _ (@pe_cal _ _ _ _ _ _ _ _ _ _ _ C_list_numbers hr (by omega) rfl (@pa_cons _ _ _ _ _ (@pv _ 3 _ _ (by rfl) (by first | exact Or.inl rfl | exact Or.inr ( Or.inl rfl ) | exact Or.inr ( Or.inr rfl )) (by decide) (by decide)) pa_nil (by rfl)) (by decide) (by rfl) (by rfl)) pa_nil (by rfl)) (by decide) (by decide) (by rfl) (by rfl))) pa_nil (by rfl)) (by rfl)) (by decide) (by rfl) (by rfl)) (@pg_tup _ _ _ _ _ _ rfl (@pgs_cons _ _ _ _ _ (@pg_name _ _ (7) _ (sc_times_and_plus).nd rfl (Or.inl rfl) (by first | exact .inl rfl | exact .inr rfl | assumption)) (@pgs_cons _ _ _ _ _ (@pg_name _ _ (8) _ (sc_times_and_plus).nd rfl (Or.inl rfl) (by first | exact .inl rfl | exact .inr rfl | assumption)) pgs_nil (by rfl)) (by rfl)) (by rfl) (by rfl)) (by rfl) (by rfl) (by rfl)) (@pss_cons _ _ _ _ _ (@ps_if _ _ _ _ _ _ _ _ (@pt_cmpR _ _ _ _ _ _ _ _ op_eq (@pv _ 2 _ _ (by rfl) (by first | exact Or.inl rfl | exact Or.inr ( Or.inl rfl ) | exact Or.inr ( Or.inr rfl )) (by decide) (by decide)) pe_str (nomark _)) (@pss_one _ _ _ (@ps_ret _ _ _ _ (@pe_tup _ _ _ _ _ (@pa_cons _ _ _ _ _ (@pe_op _ _ _ _ _ _ _ _ op_add (@pe_op _ _ _ _ _ _ _ _ op_mulB (@pv _ 5 _ _ (by rfl) (by first | exact Or.inl rfl | exact Or.inr ( Or.inl rfl ) | exact Or.inr ( Or.inr rfl )) (by decide) (by decide)) (@pv _ 8 _ _ (by rfl) (by first | exact Or.inl rfl | exact Or.inr ( Or.inl rfl ) | exact Or.inr ( Or.inr rfl )) (by decide) (by decide))) (@pe_op _ _ _ _ _ _ _ _ op_mulB (@pv _ 6 _ _ (by rfl) (by first | exact Or.inl rfl | exact Or.inr ( Or.inl rfl ) | exact Or.inr ( Or.inr rfl )) (by decide) (by decide)) (@pv _ 7 _ _ (by rfl) (by first | exact Or.inl rfl | exact Or.inr ( Or.inl rfl ) | exact Or.inr ( Or.inr rfl )) (by decide) (by decide)))) (@pa_cons _ _ _ _ _ (@pe_op _ _ _ _ _ _ _ _ op_mulB (@pv _ 6 _ _ (by rfl) (by first | exact Or.inl rfl | exact Or.inr ( Or.inl rfl ) | exact Or.inr ( Or.inr rfl )) (by decide) (by decide)) (@pv _ 8 _ _ (by rfl) (by first | exact Or.inl rfl | exact Or.inr ( Or.inl rfl ) | exact Or.inr ( Or.inr rfl )) (by decide) (by decide))) pa_nil (by rfl)) (by rfl))))) pss_nil) (@pss_one _ _ _ (@ps_ret _ _ _ _ (@pe_tup _ _ _ _ _ (@pa_cons _ _ _ _ _ (@pe_cal _ _ _ _ _ _ _ _ _ _ _ C_put_sign hr (by omega) rfl (@pa_cons _ _ _ _ _ (@pv _ 5 _ _ (by rfl) (by first | exact Or.inl rfl | exact Or.inr ( Or.inl rfl ) | exact Or.inr ( Or.inr rfl )) (by decide) (by decide)) (@pa_cons _ _ _ _ _ (@pv _ 2 _ _ (by rfl) (by first | exact Or.inl rfl | exact Or.inr ( Or.inl rfl ) | exact Or.inr ( Or.inr rfl )) (by decide) (by decide)) (@pa_cons _ _ _ _ _ (@pv _ 7 _ _ (by rfl) (by first | exact Or.inl rfl | exact Or.inr ( Or.inl rfl ) | exact Or.inr ( Or.inr rfl )) (by decide) (by decide)) pa_nil (by rfl)) (by rfl)) (by rfl)) (by decide) (by rfl) (by rfl)) (@pa_cons _ _ _ _ _ (@pe_cal _ _ _ _ _ _ _ _ _ _ _ C_put_sign hr (by omega) rfl (@pa_cons _ _ _ _ _ (@pv _ 6 _ _ (by rfl) (by first | exact Or.inl rfl | exact Or.inr ( Or.inl rfl ) | exact Or.inr ( Or.inr rfl )) (by decide) (by decide)) (@pa_cons _ _ _ _ _ (@pv _ 2 _ _ (by rfl) (by first | exact Or.inl rfl | exact Or.inr ( Or.inl rfl ) | exact Or.inr ( Or.inr rfl )) (by decide) (by decide)) (@pa_cons _ _ _ _ _ (@pv _ 8 _ _ (by rfl) (by first | exact Or.inl rfl | exact Or.inr ( Or.inl rfl ) | exact Or.inr ( Or.inr rfl )) (by decide) (by decide)) pa_nil (by rfl)) (by rfl)) (by rfl)) (by decide) (by rfl) (by rfl)) pa_nil (by rfl)) (by rfl)))))))))), ?_⟩
    cases wy with
    | num i =>
      cases hw
      refine ⟨_, rfl, _, "int", rfl, .int i, true, rfl, iteT ⟨_, rfl, rfl, _, rfl, ite2 (fun c => ?_) (fun c => ?_)⟩⟩
      · have c2 : p = 0 := by
          have : V.int p = V.int 0 := of_decide_eq_true c
          injection this
        subst c2
        exact ⟨(by show 2 ≤ sizeLine; decide), fun a na => q a _ (Same.new na _) na upd_same⟩
      · have c2 : p ≠ 0 := fun e => c (by rw [e]; rfl)
        refine ⟨_, rfl, (by show 2 ≤ sizeLine; decide), fun a na => q a _ (Same.new na _) na ?_⟩
        have e : (Wy.num i).tp p = (0, i) := by unfold Wy.tp; rw [if_neg c2]
        rw [e]; exact upd_same
    | node g l r =>
      obtain ⟨a, vl, vr, rfl, ha, hl, hr'⟩ := hw
      refine ⟨_, rfl, _, "tuple", rfl, .tup ha, false, rfl, iteF ?_⟩
      have d : max l.deep r.deep + 1 ≤ n + 1 := hd
      have z : l.size + r.size ≤ 20 := h20
      have zl := l.size_pos; have zr := r.size_pos
      have dl := l.deep_le; have dr := r.deep_le
      refine ⟨_, rfl, a, _, rfl, SqT.of ha, rfl, _, _, rfl, _, _, rfl, _, _, rfl, rfl, ?_⟩
      refine ⟨_, rfl, _, rfl, l, vl, p, rfl, hl, by omega, by omega, hB.l, fun a1 H1 g1 n1 e1 => ?_⟩
      refine ⟨a1, _, rfl, SqT.of e1, rfl, _, _, rfl, _, _, rfl, rfl, ?_⟩
      refine ⟨_, rfl, _, rfl, _, rfl, l, vl, rfl, hl.mono (Tups.of g1), by omega, by omega, fun p2 H2 g2 n2 e2 => ⟨p2, _, rfl, .inl (SqL.of e2), _, _, rfl, rfl, ?_⟩⟩
      rw [List.length_map, l.nums_len]
      refine ⟨r, vr, p - l.size, rfl, hr'.mono (Tups.of (g1.trans g2)), by omega, by omega, hB.r, fun a3 H3 g3 n3 e3 => ?_⟩
      refine ⟨a3, _, rfl, SqT.of e3, rfl, _, _, rfl, _, _, rfl, rfl, ?_⟩
      have bl := l.tp_bd p hB.l
      have br := r.tp_bd (p - l.size) hB.r
      have b1 := big bl.1 (by omega); have b2 := big bl.2 (by omega); have b3 := big br.1 (by omega); have b4 := big br.2 (by omega)
      have G3 := (g1.trans g2).trans g3
      cases g with
      | times =>
        refine ⟨_, rfl, rfl, _, rfl, iteDT rfl ?_⟩
        refine ⟨_, rfl, _, rfl, _, _, rfl, rfl, ⟨b1, b4⟩, _, rfl, _, rfl, _, _, rfl, rfl, ⟨b2, b3⟩, _, _, rfl, rfl, _, rfl, _, rfl, _, _, rfl, rfl, ⟨b2, b4⟩, (by show 2 ≤ sizeLine; decide), fun a4 n4 => ?_⟩
        exact q a4 _ (G3.trans (Same.new n4 _)) (G3.free n4) upd_same
      | plus =>
        refine ⟨_, rfl, rfl, _, rfl, iteDF (by decide +kernel) ?_⟩
        refine ⟨_, rfl, _, rfl, _, rfl, _, .plus, _, rfl, b1, b3, _, rfl, _, rfl, _, rfl, _, .plus, _, rfl, b2, b4, (by show 2 ≤ sizeLine; decide), fun a4 n4 => ?_⟩
        exact q a4 _ (G3.trans (Same.new n4 _)) (G3.free n4) upd_same
      | minus =>
        refine ⟨_, rfl, rfl, _, rfl, iteDF (by decide +kernel) ?_⟩
        refine ⟨_, rfl, _, rfl, _, rfl, _, .minus, _, rfl, b1, b3, _, rfl, _, rfl, _, rfl, _, .minus, _, rfl, b2, b4, (by show 2 ≤ sizeLine; decide), fun a4 n4 => ?_⟩
        exact q a4 _ (G3.trans (Same.new n4 _)) (G3.free n4) upd_same
def spHangs : Sp := fun vs H Q _ => ∃ w v p, vs = [v, .int p] ∧ WyIn H w v ∧ w.size ≤ 9 ∧ 0 ≤ p ∧ p < w.size ∧ w.Bd ∧ ∀ a H', Same H H' → H a = none → H' a = some (.tup [.int (w.tp p).1, .int (w.tp p).2]) → Q (.ref a) H'
def spPutN (n : Nat) : Sp := fun vs H Q _ => ∃ w v p m, vs = [v, .int p, .int m] ∧ WyIn H w v ∧ w.size ≤ 20 ∧ w.deep ≤ n ∧ ∀ u H', Same H H' → WyIn H' (w.put p m) u → Q u H'
abbrev s_put_number : Stmt := top 32
theorem sc_put_number : FnScope ["way", "place", "number", "sign", "left", "right", "right_place"] ["way", "place", "number"] (defScope s_put_number) := ⟨rfl, rfl, rfl, by decide +kernel, rfl, by decide +kernel, by decide +kernel⟩
theorem ok_put_number (F : Fun K "put_number" "put_number" s_put_number f fd) (bF : Binds K fd ["way", "place", "number"] []) (mF : mg "put_number" = some (.ref f)) (B : Bu K mg) (C_is_whole : Cal P w K mg base "is_whole" 1 ["thing"] (spWhole K))
    (C_list_numbers : Cal P w K mg base "list_numbers" 21 ["way"] (spNums 20)) : ∀ n, FnOk P w K mg base CX0 (n + 22) f fd ["way", "place", "number"] (spPutN n) := by
  intro n
  induction n with
  | zero =>
    refine ⟨fun vs H Q E h => ?_, fun A outer s H args us vs Q E _ _ _ _ h => ?_⟩
    · obtain ⟨x, v, p, m, rfl, _⟩ := h
      rfl
    · obtain ⟨wy, v, p, m, _, _, _, hd, _⟩ := h
      cases wy <;> exact absurd hd (by simp [Wy.deep])
  | succ n ih =>
    have C_put_number : Cal P w K mg base "put_number" (n + 22) ["way", "place", "number"] (spPutN n) := ⟨f, fd, ih, bF, F.kp, mF⟩
    refine F.ok sc_put_number (fun vs H Q E h => ?_) (fun cdv A outer s H vs Q E hr h => ?_)
    · obtain ⟨x, v, p, m, rfl, _⟩ := h
      rfl
    obtain ⟨wy, v, p, m, rfl, hw, h20, hd, q⟩ := h
    refine ⟨_, (@pss_cons _ _ _ _ _ (@ps_if _ _ _ _ _ _ _ _ (@pt_val _ _ _ (@pe_cal _ _ _ _ _ _ _ _ _ _ _ C_is_whole hr (by omega) rfl (@pa_cons _ _ _ _ _ (@pv _ 0 _ _ (by rfl) (by first | exact Or.inl rfl | exact Or.inr ( Or.inl rfl ) | exact Or.inr ( Or.inr rfl )) (by decide) (by decide)) pa_nil (by rfl)) (by decide) (by rfl) (by rfl)) (by intro _; rfl)) (@pss_one _ _ _ (@ps_ret _ _ _ _ (@pe_ifExp _ _ _ _ _ _ _ _ (@pt_cmpR _ _ _ _ _ _ _ _ op_eq (@pv _ 1 _ _ (by rfl) (by first | exact Or.inl rfl | exact Or.inr ( Or.inl rfl ) | exact Or.inr ( Or.inr rfl )) (by decide) (by decide)) pe_int (nomark _)) (@pv _ 2 _ _ (by rfl) (by first | exact Or.inl rfl | exact Or.inr ( Or.inl rfl ) | exact Or.inr ( Or.inr rfl )) (by decide) (by decide)) (@pv _ 0 _ _ (by rfl) (by first | exact Or.inl rfl | exact Or.inr ( Or.inl rfl ) | exact Or.inr ( Or.inr rfl )) (by decide) (by decide))))) pss_nil) (@pss_cons _ _ _ _ _ (@ps_asg _ _ _ _ _ _ (@pv _ 0 _ _ (by rfl) (by first | exact Or.inl rfl | exact Or.inr ( Or.inl rfl ) | exact Or.inr ( Or.inr rfl )) (by decide) (by decide)) (@pg_tup _ _ _ _ _ _ rfl (@pgs_cons _ _ _ _ _ (@pg_name _ _ (3) _ (sc_put_number).nd rfl (Or.inl rfl) (by first | exact .inl rfl | exact .inr rfl | assumption)) (@pgs_cons _ _ _ _ _ (@pg_name _ _ (4) _ (sc_put_number).nd rfl (Or.inl rfl) (by first | exact .inl rfl | exact .inr rfl | assumption)) (@pgs_cons _ _ _ _ _ (@pg_name _ _ (5) _ (sc_put_number).nd rfl (Or.inl rfl) (by first | exact .inl rfl | exact .inr rfl | assumption)) pgs_nil (by rfl)) (by rfl)) (by rfl)) (by rfl) (by rfl)) (by rfl) (by rfl) (by rfl)) (@pss_cons _ _ _ _ _ (@ps_set _ _ (6) _ _ _ _ (sc_put_number).nd rfl (Or.inl rfl) (@pe_op _ _ _ _ _ _ _ _ op_sub (@pv _ 1 _ _ (by rfl) (by first | exact Or.inl rfl | exact Or.inr ( Or.inl rfl ) | exact Or.inr ( Or.inr rfl )) (by decide) (by decide)) (@pe_callB _ _ _ _ _ _ _ _ _ call_len_seq rfl B.ilen PySem.boot_len (@pa_cons _ _ _ _ _ (@pe_cal _ _ _ _ _ _ _ _ _ _ _ C_list_numbers hr (by omega) rfl (@pa_cons _ _ _ _ _ (@pv _ 4 _ _ (by rfl) (by first | exact Or.inl rfl | exact Or.inr ( Or.inl rfl ) | exact Or.inr ( Or.inr rfl )) (by decide) (by decide)) pa_nil (by rfl)) (by decide) (by rfl) (by rfl)) pa_nil (by rfl)) (by decide) (by decide) (by rfl) (by rfl))) (by rfl) (by first | exact .inl rfl | exact .inr rfl | assumption)) (@pss_one _ _ _ (@ps_ret _ _ _ _ (@pe_tup _ _ _ _ _ (@pa_cons _ _ _ _ _ (@pv _ 3 _ _ (by rfl) (by first | exact Or.inl rfl | exact Or.inr ( Or.inl rfl ) | exact Or.inr ( Or.inr rfl )) (by decide) (by decide)) (@pa_cons _ _ _ _ _ (@pe_cal _ _ _ _ _ _ _ _ _ _ _ C_put_number hr (by omega) rfl (@pa_cons _ _ _ _ _ (@pv _ 4 _ _ (by rfl) (by first | exact Or.inl rfl | exact Or.inr ( Or.inl rfl ) | exact Or.inr ( Or.inr rfl )) (by decide) (by decide)) (@pa_cons _ _ _ _ _ (@pv _ 1 _ _ (by rfl) (by first | exact Or.inl rfl | exact Or.inr ( Or.inl rfl ) | exact Or.inr ( Or.inr rfl )) (by decide) (by decide)) (@pa_cons _ _ _ _ _ (@pv _ 2 _ _ (by rfl) (by first | exact Or.inl rfl | exact Or.inr ( Or.inl rfl ) | exact Or.inr ( Or.inr rfl )) (by decide) (by decide)) pa_nil (by rfl)) (by rfl)) (by rfl)) (by decide) (by rfl) (by rfl)) (@pa_cons _ _ _ _ _ (@pe_cal _ _ _ _ _ _ _ _ _ _ _ C_put_number hr (by omega) rfl (@pa_cons _ _ _ _ _ (@pv _ 5 _ _ (by rfl) (by first | exact Or.inl rfl | exact Or.inr ( Or.inl rfl ) | exact Or.inr ( Or.inr rfl )) (by decide) (by decide)) (@pa_cons _ _ _ _ _ (@pv _ 6 _ _ (by rfl) (by first | exact Or.inl rfl | exact Or.inr ( Or.inl rfl ) | exact Or.inr ( Or.inr rfl )) (by decide) (by decide)) (@pa_cons _ _ _ _ _ (@pv _ 2 _ _ (by rfl) (by first | exact Or.inl rfl | exact Or.inr ( Or.inl rfl ) | exact Or.inr ( Or.inr rfl )) (by decide) (by decide)) pa_nil (by rfl)) (by rfl)) (by rfl)) (by decide) (by rfl) (by rfl)) pa_nil (by rfl)) (by rfl)) (by rfl)))))))), ?_⟩
    cases wy with
    | num i =>
      cases hw
      refine ⟨_, rfl, _, "int", rfl, .int i, true, rfl, iteT ⟨_, rfl, rfl, _, rfl, ite2 (fun c => ?_) (fun c => ?_)⟩⟩
      · have c2 : p = 0 := by
          have : V.int p = V.int 0 := of_decide_eq_true c
          injection this
        subst c2
        exact ⟨_, rfl, q _ H (Same.refl _) rfl⟩
      · have c2 : p ≠ 0 := fun e => c (by rw [e]; rfl)
        refine ⟨_, rfl, q _ H (Same.refl _) ?_⟩
        unfold Wy.put; rw [if_neg c2]; rfl
    | node g l r =>
      obtain ⟨a, vl, vr, rfl, ha, hl, hr'⟩ := hw
      refine ⟨_, rfl, _, "tuple", rfl, .tup ha, false, rfl, iteF ?_⟩
      have d : max l.deep r.deep + 1 ≤ n + 1 := hd
      have z : l.size + r.size ≤ 20 := h20
      have zl := l.size_pos; have zr := r.size_pos
      have dl := l.deep_le; have dr := r.deep_le
      refine ⟨_, rfl, a, _, rfl, SqT.of ha, rfl, _, _, rfl, _, _, rfl, _, _, rfl, rfl, ?_⟩
      refine ⟨_, rfl, _, rfl, l, vl, rfl, hl, by omega, by omega, fun p2 H2 g2 n2 e2 => ⟨p2, _, rfl, .inl (SqL.of e2), _, _, rfl, rfl, ?_⟩⟩
      rw [List.length_map, l.nums_len]
      refine ⟨_, rfl, _, rfl, _, rfl, _, rfl, l, vl, p, m, rfl, hl.mono (Tups.of g2), by omega, by omega, fun ul H3 g3 i3 => ?_⟩
      refine ⟨_, rfl, _, rfl, _, rfl, r, vr, p - l.size, m, rfl, hr'.mono (Tups.of (g2.trans g3)), by omega, by omega, fun ur H4 g4 i4 => ⟨(by show 3 ≤ sizeLine; decide), fun a5 n5 => ?_⟩⟩
      have g5 := Same.new n5 (.tup [.str g.str, ul, ur])
      exact q _ _ (((g2.trans g3).trans g4).trans g5) ⟨a5, ul, ur, rfl, upd_same, i3.mono (Tups.of (g4.trans g5)), i4.mono (Tups.of g5)⟩
def spWithNumber : Sp := fun vs H Q _ => ∃ w v p m, vs = [v, .int p, .int m] ∧ WyIn H w v ∧ w.size ≤ 9 ∧ 0 ≤ p ∧ p < w.size ∧ ∀ u H', Same H H' → WyIn H' (w.put p m) u → Q u H'
end
end Put

set_option Elab.async false
set_option linter.all false
set_option maxRecDepth 100000
set_option maxHeartbeats 2000000
namespace Put
open PySem L2
/-! ### the worths of the stretches -/
def k2 (i j : Int) : List Key := [.inl i, .inl j]
theorem k2_inj {a b c d : Int} (h : k2 a b = k2 c d) : a = c ∧ b = d := by
  unfold k2 at h
  injection h with h1 h2
  injection h2 with h2 _
  exact ⟨by injection h1, by injection h2⟩
def Wy.pwl : Wy → Int → List (List Key × V)
  | .num n, f => [(k2 f f, .int n)]
  | .node g l r, f => l.pwl f ++ r.pwl (f + l.size) ++ [(k2 f (f + l.size + r.size - 1), .int (g.op l.worth r.worth))]
theorem Wy.pwl_len : ∀ (w : Wy) (f : Int), (w.pwl f).length + 1 = 2 * w.size
  | .num _, _ => rfl
  | .node g l r, f => by
    have a := l.pwl_len f; have b := r.pwl_len (f + l.size)
    show (l.pwl f ++ r.pwl (f + l.size) ++ [(k2 f (f + l.size + r.size - 1), V.int (g.op l.worth r.worth))]).length + 1 = 2 * (l.size + r.size)
    rw [List.length_append, List.length_append, List.length_singleton]; omega
theorem Wy.pwl_in : ∀ (w : Wy) (f : Int) (p : List Key × V), p ∈ w.pwl f → ∃ i j n, p = (k2 i j, V.int n) ∧ f ≤ i ∧ i ≤ j ∧ j < f + w.size
  | .num n, f, p, h => by
    have e : p = (k2 f f, V.int n) := by simpa [Wy.pwl] using h
    exact ⟨f, f, n, e, Int.le_refl _, Int.le_refl _, by show f < f + ((1 : Nat) : Int); omega⟩
  | .node g l r, f, p, h => by
    have zl := l.size_pos; have zr := r.size_pos
    have e : (((Wy.node g l r).size : Nat) : Int) = l.size + r.size := by show ((l.size + r.size : Nat) : Int) = _; omega
    rw [e]
    have h' : p ∈ l.pwl f ++ r.pwl (f + l.size) ++ [(k2 f (f + l.size + r.size - 1), V.int (g.op l.worth r.worth))] := h
    rcases List.mem_append.mp h' with h1 | h1
    · rcases List.mem_append.mp h1 with h2 | h2
      · obtain ⟨i, j, n, q, a, b, c⟩ := l.pwl_in f p h2
        exact ⟨i, j, n, q, by omega, by omega, by omega⟩
      · obtain ⟨i, j, n, q, a, b, c⟩ := r.pwl_in _ p h2
        exact ⟨i, j, n, q, by omega, by omega, by omega⟩
    · have q : p = (k2 f (f + l.size + r.size - 1), V.int (g.op l.worth r.worth)) := by simpa using h1
      exact ⟨_, _, _, q, by omega, by omega, by omega⟩
theorem Wy.pwl_lr (l r : Wy) (f : Int) (hl : ((l.pwl f).map (·.1)).Nodup) (hr : ((r.pwl (f + l.size)).map (·.1)).Nodup) : ((l.pwl f ++ r.pwl (f + l.size)).map (·.1)).Nodup := by
  rw [List.map_append]
  refine List.nodup_append.mpr ⟨hl, hr, fun a ha b hb e => ?_⟩
  obtain ⟨p, hp, rfl⟩ := List.mem_map.mp ha
  obtain ⟨q, hq, rfl⟩ := List.mem_map.mp hb
  obtain ⟨i, j, n, e1, a1, b1, c1⟩ := l.pwl_in f p hp
  obtain ⟨i', j', n', e2, a2, b2, c2⟩ := r.pwl_in _ q hq
  subst e1 e2
  have := k2_inj e
  omega
theorem Wy.pwl_top (g : Sg) (l r : Wy) (f : Int) : k2 f (f + l.size + r.size - 1) ∉ (l.pwl f ++ r.pwl (f + l.size)).map (·.1) := fun h => by
  have zl := l.size_pos; have zr := r.size_pos
  obtain ⟨p, hp, e⟩ := List.mem_map.mp h
  rcases List.mem_append.mp hp with h2 | h2
  · obtain ⟨i, j, n, q, a, b, c⟩ := l.pwl_in f p h2
    subst q
    have := k2_inj e
    omega
  · obtain ⟨i, j, n, q, a, b, c⟩ := r.pwl_in _ p h2
    subst q
    have := k2_inj e
    omega
theorem Wy.pwl_nodup : ∀ (w : Wy) (f : Int), ((w.pwl f).map (·.1)).Nodup
  | .num _, _ => by show ([_] : List (List Key)).Nodup; simp
  | .node g l r, f => by
    show ((l.pwl f ++ r.pwl (f + l.size) ++ [(k2 f (f + l.size + r.size - 1), V.int (g.op l.worth r.worth))]).map (·.1)).Nodup
    rw [List.map_append]
    refine List.nodup_append.mpr ⟨Wy.pwl_lr l r f (l.pwl_nodup f) (r.pwl_nodup _), by simp, fun a ha b hb e => ?_⟩
    have e2 : b = k2 f (f + l.size + r.size - 1) := by simpa using hb
    rw [e, e2] at ha
    exact Wy.pwl_top g l r f ha
theorem val_mem : ∀ {kvs : List (List Key × V)} {k : List Key} {v : V}, (kvs.map (·.1)).Nodup → (k, v) ∈ kvs → valV kvs k = some v
  | [], _, _, _, h => nomatch h
  | p :: r, k, v, hn, h => by
    rw [List.map_cons, List.nodup_cons] at hn
    rcases List.mem_cons.mp h with e | h
    · subst e; exact valV_pos rfl
    · have ne : p.1 ≠ k := fun e => hn.1 (List.mem_map.mpr ⟨(k, v), h, e.symm⟩)
      rw [valV_neg ne]; exact val_mem hn.2 h
theorem Wy.pwl_mem : ∀ (w : Wy) (f : Int), (k2 f (f + w.size - 1), V.int w.worth) ∈ w.pwl f
  | .num n, f => by
    have e : f + ((Wy.num n).size : Int) - 1 = f := by show f + ((1 : Nat) : Int) - 1 = f; omega
    rw [e]; exact List.mem_cons_self
  | .node g l r, f => by
    have e : f + ((Wy.node g l r).size : Int) - 1 = f + l.size + r.size - 1 := by show f + ((l.size + r.size : Nat) : Int) - 1 = _; omega
    rw [e]; exact List.mem_append_right _ List.mem_cons_self
theorem putK_new {kvs : List (List Key × V)} {k : List Key} {v : V} (h : k ∉ kvs.map (·.1)) : putK kvs k v = kvs ++ [(k, v)] := by
  unfold putK
  rw [if_neg]
  intro q
  obtain ⟨p, hp, e⟩ := List.any_eq_true.mp q
  exact h (List.mem_map.mpr ⟨p, hp, of_decide_eq_true e⟩)
theorem merge_app : ∀ (more kvs : List (List Key × V)), ((kvs ++ more).map (·.1)).Nodup → mergeT kvs more = kvs ++ more
  | [], kvs, _ => by rw [List.append_nil]; rfl
  | p :: r, kvs, h => by
    have hp : p.1 ∉ kvs.map (·.1) := fun q => by
      rw [List.map_append, List.map_cons] at h
      exact (List.nodup_append.mp h).2.2 _ q _ List.mem_cons_self rfl
    show mergeT (putK kvs p.1 p.2) r = _
    rw [putK_new hp, merge_app r (kvs ++ [(p.1, p.2)]) (by rw [List.append_assoc]; exact h), List.append_assoc]
    rfl
section
variable {P : Program} {w : World} {K : PySem.W.Frag} {mg : Str → Option Value} {base : Heap} {f : Addr} {fd : FuncData}
def spWbs (n : Nat) : Sp := fun vs H Q _ => ∃ (w : Wy) (v : V) (fi : Int), vs = [v, .int fi] ∧ WyIn H w v ∧ w.size ≤ 20 ∧ w.deep ≤ n ∧ w.Bd ∧ ∀ p H', Same H H' → H p = none → H' p = some (.dT (w.pwl fi)) → Q (.ref p) H'
abbrev s_worths_by_stretch : Stmt := top 30
theorem sc_worths_by_stretch : FnScope ["way", "first", "sign", "left", "right", "cut", "last", "worths"] ["way", "first"] (defScope s_worths_by_stretch) := ⟨rfl, rfl, rfl, by decide +kernel, rfl, by decide +kernel, by decide +kernel⟩
theorem ok_wbs (F : Fun K "worths_by_stretch" "worths_by_stretch" s_worths_by_stretch f fd) (bF : Binds K fd ["way", "first"] []) (mF : mg "worths_by_stretch" = some (.ref f)) (B : Bu K mg) (C_is_whole : Cal P w K mg base "is_whole" 1 ["thing"] (spWhole K))
    (C_list_numbers : Cal P w K mg base "list_numbers" 21 ["way"] (spNums 20)) (C_put_sign : Cal P w K mg base "put_sign" 1 ["left", "sign", "right"] spPutSign) : ∀ n, FnOk P w K mg base CX0 (n + 22) f fd ["way", "first"] (spWbs n) := by
  intro n
  induction n with
  | zero =>
    refine ⟨fun vs H Q E h => ?_, fun A outer s H args us vs Q E _ _ _ _ h => ?_⟩
    · obtain ⟨x, v, fi, rfl, _⟩ := h
      rfl
    · obtain ⟨wy, v, fi, _, _, _, hd, _⟩ := h
      cases wy <;> exact absurd hd (by simp [Wy.deep])
  | succ n ih =>
    have C_worths_by_stretch : Cal P w K mg base "worths_by_stretch" (n + 22) ["way", "first"] (spWbs n) := ⟨f, fd, ih, bF, F.kp, mF⟩
    refine F.ok sc_worths_by_stretch (fun vs H Q E h => ?_) (fun cdv A outer s H vs Q E hr h => ?_)
    · obtain ⟨x, v, fi, rfl, _⟩ := h
      rfl
    obtain ⟨wy, v, fi, rfl, hw, h20, hd, hB, q⟩ := h
    refine ⟨_, (@pss_cons _ _ _ _ _ (@ps_if _ _ _ _ _ _ _ _ (@pt_val _ _ _ (@pe_cal _ _ _ _ _ _ _ _ _ _ _ C_is_whole hr (by omega) rfl (@pa_cons _ _ _ _ _ (@pv _ 0 _ _ (by rfl) (by first | exact Or.inl rfl | exact Or.inr ( Or.inl rfl ) | exact Or.inr ( Or.inr rfl )) (by decide) (by decide)) pa_nil (by rfl)) (by decide) (by rfl) (by rfl)) (by intro _; rfl)) (@pss_one _ _ _ (@ps_ret _ _ _ _ (@pe_dispT _ _ _ _ _ (u1 hr.units) (@pps_cons _ _ _ _ _ _ _ _ _ (@pe_tup _ _ _ _ _ (@pa_cons _ _ _ _ _ (@pv _ 1 _ _ (by rfl) (by first | exact Or.inl rfl | exact Or.inr ( Or.inl rfl ) | exact Or.inr ( Or.inr rfl )) (by decide) (by decide)) (@pa_cons _ _ _ _ _ (@pv _ 1 _ _ (by rfl) (by first | exact Or.inl rfl | exact Or.inr ( Or.inl rfl ) | exact Or.inr ( Or.inr rfl )) (by decide) (by decide)) pa_nil (by rfl)) (by rfl))) (@pv _ 0 _ _ (by rfl) (by first | exact Or.inl rfl | exact Or.inr ( Or.inl rfl ) | exact Or.inr ( Or.inr rfl )) (by decide) (by decide)) pps_nil) (by rfl) (by rfl) (by simp) (by decide)))) pss_nil) (@pss_cons _ _ _ _ _ (@ps_asg _ _ _ _ _ _ (@pv _ 0 _ _ (by rfl) (by first | exact Or.inl rfl | exact Or.inr ( Or.inl rfl ) | exact Or.inr ( Or.inr rfl )) (by decide) (by decide)) (@pg_tup _ _ _ _ _ _ rfl (@pgs_cons _ _ _ _ _ (@pg_name _ _ (2) _ (sc_worths_by_stretch).nd rfl (Or.inl rfl) (by first | exact .inl rfl | exact .inr rfl | assumption)) (@pgs_cons _ _ _ _ _ (@pg_name _ _ (3) _ (sc_worths_by_stretch).nd rfl (Or.inl rfl) (by first | exact .inl rfl | exact .inr rfl | assumption)) (@pgs_cons _ _ _ _ _ (@pg_name _ _ (4) _ (sc_worths_by_stretch).nd rfl (Or.inl rfl) (by first | exact .inl rfl | exact .inr rfl | assumption)) pgs_nil (by rfl)) (by rfl)) (by rfl)) (by rfl) (by rfl)) (by rfl) (by rfl) (by rfl)) (@pss_cons _ _ _ _ _ (@ps_set _ _ (5) _ _ _ _ (sc_worths_by_stretch).nd rfl (Or.inl rfl) (@pe_op _ _ _ _ _ _ _ _ op_add (@pv _ 1 _ _ (by rfl) (by first | exact Or.inl rfl | exact Or.inr ( Or.inl rfl ) | exact Or.inr ( Or.inr rfl )) (by decide) (by decide)) (@pe_callB _ _ _ _ _ _ _ _ _ call_len_seq rfl B.ilen PySem.boot_len (@pa_cons _ _ _ _ _ (@pe_cal _ _ _ _ _ _ _ _ _ _ _ C_list_numbers hr (by omega) rfl (@pa_cons _ _ _ _ _ (@pv _ 3 _ _ (by rfl) (by first | exact Or.inl rfl | exact Or.inr ( Or.inl rfl ) | exact Or.inr ( Or.inr rfl )) (by decide) (by decide)) pa_nil (by rfl)) (by decide) (by rfl) (by rfl)) pa_nil (by rfl)) (by decide) (by decide) (by rfl) (by rfl))) (by rfl) (by first | exact .inl rfl | exact .inr rfl | assumption)) (@pss_cons _ _ _ _ _ (@ps_set _ _ (6) _ _ _ _ (sc_worths_by_stretch).nd rfl (Or.inl rfl) (@pe_op _ _ _ _ _ _ _ _ op_sub (@pe_op _ _ _ _ _ _ _ _ op_add (@pv _ 5 _ _ (by rfl) (by first | exact Or.inl rfl | exact Or.inr ( Or.inl rfl ) | exact Or.inr ( Or.inr rfl )) (by decide) (by decide)) (@pe_callB _ _ _ _ _ _ _ _ _ call_len_seq rfl B.ilen PySem.boot_len (@pa_cons _ _ _ _ _ (@pe_cal _ _ _ _ _ _ _ _ _ _ _ C_list_numbers hr (by omega) rfl (@pa_cons _ _ _ _ _ (@pv _ 4 _ _ (by rfl) (by first | exact Or.inl rfl | exact Or.inr ( Or.inl rfl ) | exact Or.inr ( Or.inr rfl )) (by decide) (by decide)) pa_nil (by rfl)) (by decide) (by rfl) (by rfl)) pa_nil (by rfl)) (by decide) (by decide) (by rfl) (by rfl))) pe_int) (by rfl) (by first | exact .inl rfl | exact .inr rfl | assumption)) (@pss_cons _ _ _ _ _ (@ps_set _ _ (7) _ _ _ _ (sc_worths_by_stretch).nd rfl (Or.inl rfl) (@pe_cal _ _ _ _ _ _ _ _ _ _ _ C_worths_by_stretch hr (by omega) rfl (@pa_cons _ _ _ _ _ (@pv _ 3 _ _ (by rfl) (by first | exact Or.inl rfl | exact Or.inr ( Or.inl rfl ) | exact Or.inr ( Or.inr rfl )) (by decide) (by decide)) (@pa_cons _ _ _ _ _ (@pv _ 1 _ _ (by rfl) (by first | exact Or.inl rfl | exact Or.inr ( Or.inl rfl ) | exact Or.inr ( Or.inr rfl )) (by decide) (by decide)) pa_nil (by rfl)) (by rfl)) (by decide) (by rfl) (by rfl)) (by rfl) (by first | exact .inl rfl | exact .inr rfl | assumption)) (@pss_cons _ _ _ _ _ (@ps_expr _ _ _ _ (@pe_bm _ _ _ _ _ _ _ _ _ _ _ _ PySem.F.plainAttrs_dict PySem.F.slot_dict_update PySem.F.type_dict_update (@mt_dupd _ (u1 hr.units)) (@pv _ 7 _ _ (by rfl) (by first | exact Or.inl rfl | exact Or.inr ( Or.inl rfl ) | exact Or.inr ( Or.inr rfl )) (by decide) (by decide)) (@pa_cons _ _ _ _ _ (@pe_cal _ _ _ _ _ _ _ _ _ _ _ C_worths_by_stretch hr (by omega) rfl (@pa_cons _ _ _ _ _ (@pv _ 4 _ _ (by rfl) (by first | exact Or.inl rfl | exact Or.inr ( Or.inl rfl ) | exact Or.inr ( Or.inr rfl )) (by decide) (by decide)) (@pa_cons _ _ _ _ _ (@pv _ 5 _ _ (by rfl) (by first | exact Or.inl rfl | exact Or.inr ( Or.inl rfl ) | exact Or.inr ( Or.inr rfl )) (by decide) (by decide)) pa_nil (by rfl)) (by rfl)) (by decide) (by rfl) (by rfl)) pa_nil (by rfl)) (by rfl) (by rfl) (by rfl) (by rfl) (by rfl)) (by rfl)) (@pss_cons _ _ _ _ _ (@ps_dput _ _ _ _ _ _ _ _ _ (u1 hr.units) (@pv _ 7 _ _ (by rfl) (by first | exact Or.inl rfl | exact Or.inr ( Or.inl rfl ) | exact Or.inr ( Or.inr rfl )) (by decide) (by decide)) (@pe_tup _ _ _ _ _ (@pa_cons _ _ _ _ _ (@pv _ 1 _ _ (by rfl) (by first | exact Or.inl rfl | exact Or.inr ( Or.inl rfl ) | exact Or.inr ( Or.inr rfl )) (by decide) (by decide)) (@pa_cons _ _ _ _ _ (@pv _ 6 _ _ (by rfl) (by first | exact Or.inl rfl | exact Or.inr ( Or.inl rfl ) | exact Or.inr ( Or.inr rfl )) (by decide) (by decide)) pa_nil (by rfl)) (by rfl))) (@pe_cal _ _ _ _ _ _ _ _ _ _ _ C_put_sign hr (by omega) rfl (@pa_cons _ _ _ _ _ (@pe_dget _ _ _ _ _ _ (u1 hr.units) (@pv _ 7 _ _ (by rfl) (by first | exact Or.inl rfl | exact Or.inr ( Or.inl rfl ) | exact Or.inr ( Or.inr rfl )) (by decide) (by decide)) (@pe_tup _ _ _ _ _ (@pa_cons _ _ _ _ _ (@pv _ 1 _ _ (by rfl) (by first | exact Or.inl rfl | exact Or.inr ( Or.inl rfl ) | exact Or.inr ( Or.inr rfl )) (by decide) (by decide)) (@pa_cons _ _ _ _ _ (@pe_op _ _ _ _ _ _ _ _ op_sub (@pv _ 5 _ _ (by rfl) (by first | exact Or.inl rfl | exact Or.inr ( Or.inl rfl ) | exact Or.inr ( Or.inr rfl )) (by decide) (by decide)) pe_int) pa_nil (by rfl)) (by rfl))) (fun _ _ => rfl)) (@pa_cons _ _ _ _ _ (@pv _ 2 _ _ (by rfl) (by first | exact Or.inl rfl | exact Or.inr ( Or.inl rfl ) | exact Or.inr ( Or.inr rfl )) (by decide) (by decide)) (@pa_cons _ _ _ _ _ (@pe_dget _ _ _ _ _ _ (u1 hr.units) (@pv _ 7 _ _ (by rfl) (by first | exact Or.inl rfl | exact Or.inr ( Or.inl rfl ) | exact Or.inr ( Or.inr rfl )) (by decide) (by decide)) (@pe_tup _ _ _ _ _ (@pa_cons _ _ _ _ _ (@pv _ 5 _ _ (by rfl) (by first | exact Or.inl rfl | exact Or.inr ( Or.inl rfl ) | exact Or.inr ( Or.inr rfl )) (by decide) (by decide)) (@pa_cons _ _ _ _ _ (@pv _ 6 _ _ (by rfl) (by first | exact Or.inl rfl | exact Or.inr ( Or.inl rfl ) | exact Or.inr ( Or.inr rfl )) (by decide) (by decide)) pa_nil (by rfl)) (by rfl))) (fun _ _ => rfl)) pa_nil (by rfl)) (by rfl)) (by rfl)) (by decide) (by rfl) (by rfl)) rfl) (@pss_one _ _ _ (@ps_ret _ _ _ _ (@pv _ 7 _ _ (by rfl) (by first | exact Or.inl rfl | exact Or.inr ( Or.inl rfl ) | exact Or.inr ( Or.inr rfl )) (by decide) (by decide))))))))))), ?_⟩
    cases wy with
    | num i =>
      cases hw
      refine ⟨_, rfl, _, "int", rfl, .int i, true, rfl, iteT (fun p hp => ?_)⟩
      refine ⟨_, rfl, _, rfl, (by show 2 ≤ sizeLine; decide), fun b nb => ⟨_, rfl, ?_⟩⟩
      have g1 := Same.new hp (.dT [])
      have g2 := Same.new nb (.tup [.int fi, .int fi])
      refine ⟨g2 _ _ upd_same, [(b, k2 fi fi, .int i)], rfl, fun c hc => ?_, by simp, ?_⟩
      · have e : c = (b, k2 fi fi, .int i) := by simpa using hc
        subst e; exact upd_same
      · exact q p _ ((g1.trans g2).upd hp) hp upd_same
    | node g l r =>
      obtain ⟨a, vl, vr, rfl, ha, hl, hr'⟩ := hw
      refine ⟨_, rfl, _, "tuple", rfl, .tup ha, false, rfl, iteF ?_⟩
      have d : max l.deep r.deep + 1 ≤ n + 1 := hd
      have z : l.size + r.size ≤ 20 := h20
      have zl := l.size_pos; have zr := r.size_pos
      have dl := l.deep_le; have dr := r.deep_le
      refine ⟨_, rfl, a, _, rfl, SqT.of ha, rfl, _, _, rfl, _, _, rfl, _, _, rfl, rfl, ?_⟩
      refine ⟨_, rfl, _, rfl, l, vl, rfl, hl, by omega, by omega, fun p1 H1 g1 n1 e1 => ⟨p1, _, rfl, .inl (SqL.of e1), _, _, rfl, rfl, ?_⟩⟩
      refine ⟨_, rfl, _, rfl, r, vr, rfl, hr'.mono (Tups.of g1), by omega, by omega, fun p2 H2 g2 n2 e2 => ⟨p2, _, rfl, .inl (SqL.of e2), _, _, rfl, rfl, _, _, rfl, rfl, ?_⟩⟩
      rw [List.length_map, List.length_map, l.nums_len, r.nums_len]
      have G2 := g1.trans g2
      refine ⟨_, rfl, _, rfl, l, vl, fi, rfl, hl.mono (Tups.of G2), by omega, by omega, hB.l, fun p3 H3 g3 n3 e3 => ?_⟩
      have G3 := G2.trans g3
      refine ⟨_, rfl, .inr (.inr (.inl ⟨rfl, .inr ⟨_, e3⟩⟩)), _, rfl, _, rfl, r, vr, fi + l.size, rfl, hr'.mono (Tups.of G3), by omega, by omega, hB.r, fun p4 H4 g4 n4 e4 => ?_⟩
      have G4 := G3.trans g4
      have e34 := g4 _ _ e3
      have n34 : p3 ≠ p4 := ne_of_none e3 n4
      have ll := l.pwl_len fi; have rl := r.pwl_len (fi + l.size)
      have np3 : H p3 = none := G2.free n3
      refine ⟨p3, p4, _, _, rfl, rfl, e34, e4, n34, fun e => ?_, le_line (by omega), ?_⟩
      · rw [e] at ll; simp at ll; omega
      rw [merge_app _ _ (Wy.pwl_lr l r fi (l.pwl_nodup _) (r.pwl_nodup _))]
      have G5 : Same H (upd H4 p3 (.dT (l.pwl fi ++ r.pwl (fi + l.size)))) := G4.upd np3
      have e5 := upd_same (H := H4) (a := p3) (o := .dT (l.pwl fi ++ r.pwl (fi + l.size)))
      revert G5 e5
      generalize upd H4 p3 (.dT (l.pwl fi ++ r.pwl (fi + l.size))) = H5
      intro G5 e5
      have nd := Wy.pwl_lr l r fi (l.pwl_nodup _) (r.pwl_nodup _)
      have vl' : valV (l.pwl fi ++ r.pwl (fi + l.size)) (k2 fi (fi + l.size - 1)) = some (.int l.worth) := val_mem nd (List.mem_append_left _ (l.pwl_mem fi))
      have vr' : valV (l.pwl fi ++ r.pwl (fi + l.size)) (k2 (fi + l.size) (fi + l.size + r.size - 1)) = some (.int r.worth) := val_mem nd (List.mem_append_right _ (r.pwl_mem _))
      refine ⟨_, rfl, _, rfl, _, rfl, _, _, rfl, rfl, (by show 2 ≤ sizeLine; decide), fun b1 nb1 => ?_⟩
      have g6 := Same.new nb1 (.tup [.int fi, .int (fi + (l.size : Int) - 1)])
      refine ⟨p3, .int l.worth, rfl, by rw [← vl']; exact DGet.t (g6 _ _ e5) (k := k2 fi (fi + l.size - 1)) upd_same, ?_⟩
      refine ⟨_, rfl, _, rfl, _, rfl, _, rfl, (by show 2 ≤ sizeLine; decide), fun b2 nb2 => ?_⟩
      have g7 := Same.new nb2 (.tup [.int (fi + (l.size : Int)), .int (fi + (l.size : Int) + (r.size : Int) - 1)])
      refine ⟨p3, .int r.worth, rfl, by rw [← vr']; exact DGet.t (g7 _ _ (g6 _ _ e5)) (k := k2 (fi + l.size) (fi + l.size + r.size - 1)) upd_same, ?_⟩
      refine ⟨_, g, _, rfl, big (l.worth_bd hB.l) (by omega), big (r.worth_bd hB.r) (by omega), ?_⟩
      refine ⟨_, rfl, _, rfl, _, rfl, (by show 2 ≤ sizeLine; decide), fun b3 nb3 => ?_⟩
      have g8 := Same.new nb3 (.tup [.int fi, .int (fi + (l.size : Int) + (r.size : Int) - 1)])
      have sz5 : (l.pwl fi ++ r.pwl (fi + l.size)).length < sizeLine := by
        rw [List.length_append]
        have : (1000 : Nat) ≤ sizeLine := by decide
        omega
      refine ⟨p3, _, rfl, DPut.t (k := k2 fi (fi + l.size + r.size - 1)) (g8 _ _ (g7 _ _ (g6 _ _ e5))) upd_same sz5, ?_⟩
      rw [putK_new (Wy.pwl_top g l r fi)]
      exact ⟨_, rfl, q p3 _ ((((G5.trans g6).trans g7).trans g8).upd np3) np3 upd_same⟩
def spPartWorths : Sp := fun vs H Q _ => ∃ w v, vs = [v] ∧ WyIn H w v ∧ w.size ≤ 9 ∧ w.Bd ∧ ∀ p H', Same H H' → H p = none → H' p = some (.dT (w.pwl 0)) → Q (.ref p) H'
end
end Put

set_option Elab.async false
set_option linter.all false
set_option maxRecDepth 100000
set_option maxHeartbeats 2000000
namespace Put
open PySem L2
section
variable {P : Program} {w : World} {K : PySem.W.Frag} {mg : Str → Option Value} {base : Heap} {f : Addr} {fd : FuncData}
/-- the exceptions' classes -/
structure Xc (K : PySem.W.Frag) (mg : Str → Option Value) (aP aW aN aL : Addr) : Prop where
  mPutError : mg "PutError" = some (.ref aP)
  mNoWay : mg "NoWay" = some (.ref aW)
  mNoNumber : mg "NoNumber" = some (.ref aN)
  mNoPlace : mg "NoPlace" = some (.ref aL)
  eNoWay : EC K aW
  eNoNumber : EC K aN
  eNoPlace : EC K aL
  uNoWay : Und K aW aP
  uNoNumber : Und K aN aP
  uNoPlace : Und K aL aP
def spNeedWhole1 (K : PySem.W.Frag) (aN : Addr) : Sp := fun vs H Q E => ∃ x n, vs = [x] ∧ TyOf K H x (.type n) ∧ (n = "int" → Q .non H) ∧ (n ≠ "int" → E (.ref aN) none H)
abbrev s_need_whole : Stmt := top 20
theorem sc_need_whole : FnScope ["thing"] ["thing"] (defScope s_need_whole) := ⟨rfl, rfl, rfl, by decide +kernel, rfl, by decide +kernel, by decide +kernel⟩
theorem ok_need_whole1 {aP aW aN aL : Addr} (F : Fun K "need_whole" "need_whole" s_need_whole f fd) (XC : Xc K mg aP aW aN aL) (C_is_whole : Cal P w K mg base "is_whole" 1 ["thing"] (spWhole K)) : FnOk P w K mg base (CX1 P w) 2 f fd ["thing"] (spNeedWhole1 K aN) := by
  refine Fun.ok1 F sc_need_whole (fun vs H Q E h => ?_) (fun cdv A outer s H vs Q E hr h => ?_)
  · obtain ⟨x, n, rfl, _⟩ := h
    rfl
  obtain ⟨x, n, rfl, ty, q1, q2⟩ := h
  refine ⟨_, (@pss_one _ _ _ (@ps_if _ _ _ _ _ _ _ _ (@pt_not _ _ _ _ (@pt_val _ _ _ (@pe_cal _ _ _ _ _ _ _ _ _ _ _ C_is_whole hr (by omega) rfl (@pa_cons _ _ _ _ _ (@pv _ 0 _ _ (by rfl) (by first | exact Or.inl rfl | exact Or.inr ( Or.inl rfl ) | exact Or.inr ( Or.inr rfl )) (by decide) (by decide)) pa_nil (by rfl)) (by decide) (by rfl) (by rfl)) (by intro _; rfl))) (@pss_one _ _ _ (@ps_raise _ _ _ _ _ _ _ _ _ _ rz1 XC.eNoNumber rfl rfl XC.mNoNumber (by rfl) (by decide))) pss_nil)), ?_⟩
  by_cases c : n = "int"
  · refine ⟨_, rfl, x, n, rfl, ty, true, congrArg V.bl (decide_eq_true c), iteF (q1 c)⟩
  · refine ⟨_, rfl, x, n, rfl, ty, false, congrArg V.bl (decide_eq_false c), iteT (q2 c)⟩
def spNeedWay1 (aW : Addr) : Sp := fun vs H Q E => ∃ d v, vs = [v] ∧ Dat H d v ∧ (isWayD d = true → ∀ H', Same H H' → Q .non H') ∧ (isWayD d = false → ∀ H', Same H H' → E (.ref aW) none H')
abbrev s_need_way : Stmt := top 19
theorem sc_need_way : FnScope ["thing"] ["thing"] (defScope s_need_way) := ⟨rfl, rfl, rfl, by decide +kernel, rfl, by decide +kernel, by decide +kernel⟩
theorem ok_need_way1 {aP aW aN aL : Addr} (F : Fun K "need_way" "need_way" s_need_way f fd) (XC : Xc K mg aP aW aN aL) (C_is_way : Cal P w K mg base "is_way" 2 ["thing"] spIsWayD) : FnOk P w K mg base (CX1 P w) 3 f fd ["thing"] (spNeedWay1 aW) := by
  refine Fun.ok1 F sc_need_way (fun vs H Q E h => ?_) (fun cdv A outer s H vs Q E hr h => ?_)
  · obtain ⟨d, v, rfl, _⟩ := h
    rfl
  obtain ⟨d, v, rfl, hd, q1, q2⟩ := h
  refine ⟨_, (@pss_one _ _ _ (@ps_if _ _ _ _ _ _ _ _ (@pt_not _ _ _ _ (@pt_val _ _ _ (@pe_cal _ _ _ _ _ _ _ _ _ _ _ C_is_way hr (by omega) rfl (@pa_cons _ _ _ _ _ (@pv _ 0 _ _ (by rfl) (by first | exact Or.inl rfl | exact Or.inr ( Or.inl rfl ) | exact Or.inr ( Or.inr rfl )) (by decide) (by decide)) pa_nil (by rfl)) (by decide) (by rfl) (by rfl)) (by intro _; rfl))) (@pss_one _ _ _ (@ps_raise _ _ _ _ _ _ _ _ _ _ rz1 XC.eNoWay rfl rfl XC.mNoWay (by rfl) (by decide))) pss_nil)), ?_⟩
  refine ⟨_, rfl, d, v, rfl, hd, fun H1 g1 => ?_⟩
  cases c : isWayD d with
  | true => exact ⟨true, rfl, iteF (q1 c H1 g1)⟩
  | false => exact ⟨false, rfl, iteT (q2 c H1 g1)⟩
def spWorthOf1 (aW : Addr) : Sp := fun vs H Q E => ∃ d v, vs = [v] ∧ Dat H d v ∧ (isWayD d = true → ∃ wy, WyIn H wy v ∧ wy.size ≤ 9 ∧ wy.Bd ∧ ∀ H', Same H H' → Q (.int wy.worth) H') ∧ (isWayD d = false → ∀ H', Same H H' → E (.ref aW) none H')
abbrev s_worth_of : Stmt := top 23
theorem sc_worth_of : FnScope ["way"] ["way"] (defScope s_worth_of) := ⟨rfl, rfl, rfl, by decide +kernel, rfl, by decide +kernel, by decide +kernel⟩
theorem ok_worth_of1 {aW : Addr} (F : Fun K "worth_of" "worth_of" s_worth_of f fd) (C_need_way : Cal1 P w K mg base "need_way" 3 ["thing"] (spNeedWay1 aW)) (C_find_worth : Cal P w K mg base "find_worth" 21 ["way"] (spWorth 20)) : FnOk P w K mg base (CX1 P w) 22 f fd ["way"] (spWorthOf1 aW) := by
  refine Fun.ok1 F sc_worth_of (fun vs H Q E h => ?_) (fun cdv A outer s H vs Q E hr h => ?_)
  · obtain ⟨d, v, rfl, _⟩ := h
    rfl
  obtain ⟨d, v, rfl, hd, q1, q2⟩ := h
  refine ⟨_, (@pss_cons _ _ _ _ _ (@ps_expr _ _ _ _ (@pe_cal1 _ _ _ _ _ _ _ _ _ _ _ _ C_need_way pass1 hr (by omega) rfl (@pa_cons _ _ _ _ _ (@pv _ 0 _ _ (by rfl) (by first | exact Or.inl rfl | exact Or.inr ( Or.inl rfl ) | exact Or.inr ( Or.inr rfl )) (by decide) (by decide)) pa_nil (by rfl)) (by decide) (by rfl) (by rfl)) (by rfl)) (@pss_one _ _ _ (@ps_ret _ _ _ _ (@pe_cal _ _ _ _ _ _ _ _ _ _ _ C_find_worth hr (by omega) rfl (@pa_cons _ _ _ _ _ (@pv _ 0 _ _ (by rfl) (by first | exact Or.inl rfl | exact Or.inr ( Or.inl rfl ) | exact Or.inr ( Or.inr rfl )) (by decide) (by decide)) pa_nil (by rfl)) (by decide) (by rfl) (by rfl))))), ?_⟩
  refine ⟨_, rfl, d, v, rfl, hd, fun c H1 g1 => ?_, fun c H1 g1 => q2 c H1 g1⟩
  obtain ⟨wy, hw, h9, hB, q⟩ := q1 c
  have dl := wy.deep_le
  exact ⟨_, rfl, wy, v, rfl, hw.mono (Tups.of g1), by omega, by omega, hB, q H1 g1⟩
def spPartWorths1 (aW : Addr) : Sp := fun vs H Q E => ∃ d v, vs = [v] ∧ Dat H d v ∧ (isWayD d = true → ∃ wy, WyIn H wy v ∧ wy.size ≤ 9 ∧ wy.Bd ∧ ∀ p H', Same H H' → H p = none → H' p = some (.dT (wy.pwl 0)) → Q (.ref p) H') ∧ (isWayD d = false → ∀ H', Same H H' → E (.ref aW) none H')
abbrev s_part_worths : Stmt := top 24
theorem sc_part_worths : FnScope ["way"] ["way"] (defScope s_part_worths) := ⟨rfl, rfl, rfl, by decide +kernel, rfl, by decide +kernel, by decide +kernel⟩
theorem ok_part_worths1 {aW : Addr} (F : Fun K "part_worths" "part_worths" s_part_worths f fd) (C_need_way : Cal1 P w K mg base "need_way" 3 ["thing"] (spNeedWay1 aW)) (C_worths_by_stretch : Cal P w K mg base "worths_by_stretch" 42 ["way", "first"] (spWbs 20)) : FnOk P w K mg base (CX1 P w) 43 f fd ["way"] (spPartWorths1 aW) := by
  refine Fun.ok1 F sc_part_worths (fun vs H Q E h => ?_) (fun cdv A outer s H vs Q E hr h => ?_)
  · obtain ⟨d, v, rfl, _⟩ := h
    rfl
  obtain ⟨d, v, rfl, hd, q1, q2⟩ := h
  refine ⟨_, (@pss_cons _ _ _ _ _ (@ps_expr _ _ _ _ (@pe_cal1 _ _ _ _ _ _ _ _ _ _ _ _ C_need_way pass1 hr (by omega) rfl (@pa_cons _ _ _ _ _ (@pv _ 0 _ _ (by rfl) (by first | exact Or.inl rfl | exact Or.inr ( Or.inl rfl ) | exact Or.inr ( Or.inr rfl )) (by decide) (by decide)) pa_nil (by rfl)) (by decide) (by rfl) (by rfl)) (by rfl)) (@pss_one _ _ _ (@ps_ret _ _ _ _ (@pe_cal _ _ _ _ _ _ _ _ _ _ _ C_worths_by_stretch hr (by omega) rfl (@pa_cons _ _ _ _ _ (@pv _ 0 _ _ (by rfl) (by first | exact Or.inl rfl | exact Or.inr ( Or.inl rfl ) | exact Or.inr ( Or.inr rfl )) (by decide) (by decide)) (@pa_cons _ _ _ _ _ pe_int pa_nil (by rfl)) (by rfl)) (by decide) (by rfl) (by rfl))))), ?_⟩
  refine ⟨_, rfl, d, v, rfl, hd, fun c H1 g1 => ?_, fun c H1 g1 => q2 c H1 g1⟩
  obtain ⟨wy, hw, h9, hB, q⟩ := q1 c
  have dl := wy.deep_le
  exact ⟨_, rfl, wy, v, 0, rfl, hw.mono (Tups.of g1), by omega, by omega, hB, fun p H2 g2 n2 e2 => q p H2 (g1.trans g2) (g1.free n2) e2⟩
/-- a place of a way of n numbers -/
def plD (n : Nat) : PyData → Bool
  | .int i => decide (0 ≤ i) && decide (i < n)
  | _ => false
def spNeedPlace1 (aL : Addr) : Sp := fun vs H Q E => ∃ wy v d u, vs = [v, u] ∧ WyIn H wy v ∧ wy.size ≤ 20 ∧ Dat H d u ∧ (plD wy.size d = true → ∀ H', Same H H' → Q .non H') ∧ (plD wy.size d = false → ∀ H', Same H H' → E (.ref aL) none H')
abbrev s_need_place : Stmt := top 27
theorem sc_need_place : FnScope ["way", "thing"] ["way", "thing"] (defScope s_need_place) := ⟨rfl, rfl, rfl, by decide +kernel, rfl, by decide +kernel, by decide +kernel⟩
theorem ok_need_place1 {aP aW aN aL : Addr} (F : Fun K "need_place" "need_place" s_need_place f fd) (B : Bu K mg) (XC : Xc K mg aP aW aN aL) (C_is_whole : Cal P w K mg base "is_whole" 1 ["thing"] (spWhole K)) (C_list_numbers : Cal P w K mg base "list_numbers" 21 ["way"] (spNums 20)) : FnOk P w K mg base (CX1 P w) 22 f fd ["way", "thing"] (spNeedPlace1 aL) := by
  refine Fun.ok1 F sc_need_place (fun vs H Q E h => ?_) (fun cdv A outer s H vs Q E hr h => ?_)
  · obtain ⟨wy, v, d, u, rfl, _⟩ := h
    rfl
  obtain ⟨wy, v, d, u, rfl, hw, h20, hd, q1, q2⟩ := h
  refine ⟨_, (@pss_one _ _ _ (@ps_if _ _ _ _ _ _ _ _ (@PW.pt _ _ _ (@pw_or _ _ _ _ _ _ _ (@pt_not _ _ _ _ (@pt_val _ _ _ (@pe_cal _ _ _ _ _ _ _ _ _ _ _ C_is_whole hr (by omega) rfl (@pa_cons _ _ _ _ _ (@pv _ 1 _ _ (by rfl) (by first | exact Or.inl rfl | exact Or.inr ( Or.inl rfl ) | exact Or.inr ( Or.inr rfl )) (by decide) (by decide)) pa_nil (by rfl)) (by decide) (by rfl) (by rfl)) (by intro _; rfl))) (@pw_or1 _ _ _ _ (@pt_not _ _ _ _ (@pt_chain _ _ _ _ _ _ _ _ _ _ _ _ op_le op_lt pe_int (@pv _ 1 _ _ (by rfl) (by first | exact Or.inl rfl | exact Or.inr ( Or.inl rfl ) | exact Or.inr ( Or.inr rfl )) (by decide) (by decide)) (@pe_callB _ _ _ _ _ _ _ _ _ call_len_seq rfl B.ilen PySem.boot_len (@pa_cons _ _ _ _ _ (@pe_cal _ _ _ _ _ _ _ _ _ _ _ C_list_numbers hr (by omega) rfl (@pa_cons _ _ _ _ _ (@pv _ 0 _ _ (by rfl) (by first | exact Or.inl rfl | exact Or.inr ( Or.inl rfl ) | exact Or.inr ( Or.inr rfl )) (by decide) (by decide)) pa_nil (by rfl)) (by decide) (by rfl) (by rfl)) pa_nil (by rfl)) (by decide) (by decide) (by rfl) (by rfl)) (by with_unfolding_all rfl)))))) (@pss_one _ _ _ (@ps_raise _ _ _ _ _ _ _ _ _ _ rz1 XC.eNoPlace rfl rfl XC.mNoPlace (by rfl) (by decide))) pss_nil)), ?_⟩
  have dl := wy.deep_le
  cases d with
  | int p =>
    have e : u = .int p := hd
    subst e
    refine ⟨_, rfl, _, "int", rfl, .int p, true, rfl, iteF ?_⟩
    by_cases h0 : 0 ≤ p
    · refine ⟨_, rfl, _, _, rfl, rfl, true, congrArg V.bl (decide_eq_true h0), iteT ?_⟩
      refine ⟨_, rfl, wy, v, rfl, hw, h20, by omega, fun p1 H1 g1 n1 e1 => ⟨p1, _, rfl, .inl (SqL.of e1), _, _, rfl, rfl, ?_⟩⟩
      rw [List.length_map, wy.nums_len]
      by_cases h1 : p < wy.size
      · exact ⟨true, congrArg V.bl (decide_eq_true h1), iteF (q1 (by simp [plD, h0, h1]) H1 g1)⟩
      · exact ⟨false, congrArg V.bl (decide_eq_false h1), iteT (q2 (by simp [plD, h0, h1]) H1 g1)⟩
    · refine ⟨_, rfl, _, _, rfl, rfl, false, congrArg V.bl (decide_eq_false h0), iteF ⟨false, rfl, iteT (q2 (by simp [plD, h0]) H (Same.refl _))⟩⟩
  | bool b => exact ⟨_, rfl, _, _, rfl, hd.ty, false, rfl, iteT (q2 rfl H (Same.refl _))⟩
  | none => exact ⟨_, rfl, _, _, rfl, hd.ty, false, rfl, iteT (q2 rfl H (Same.refl _))⟩
  | str b => exact ⟨_, rfl, _, _, rfl, hd.ty, false, rfl, iteT (q2 rfl H (Same.refl _))⟩
  | list b => exact ⟨_, rfl, _, _, rfl, hd.ty, false, rfl, iteT (q2 rfl H (Same.refl _))⟩
  | tuple b => exact ⟨_, rfl, _, _, rfl, hd.ty, false, rfl, iteT (q2 rfl H (Same.refl _))⟩
  | dict b => exact ⟨_, rfl, _, _, rfl, hd.ty, false, rfl, iteT (q2 rfl H (Same.refl _))⟩
def spHangs1 (aW aL : Addr) : Sp := fun vs H Q E => ∃ d v e u, vs = [v, u] ∧ Dat H d v ∧ Dat H e u ∧ (isWayD d = false → ∀ H', Same H H' → E (.ref aW) none H') ∧
  (isWayD d = true → ∃ wy, WyIn H wy v ∧ wy.size ≤ 9 ∧ wy.Bd ∧ (plD wy.size e = false → ∀ H', Same H H' → E (.ref aL) none H') ∧ (plD wy.size e = true → ∀ a H', Same H H' → Q (.ref a) H'))
abbrev s_hangs_by : Stmt := top 25
theorem sc_hangs_by : FnScope ["way", "place"] ["way", "place"] (defScope s_hangs_by) := ⟨rfl, rfl, rfl, by decide +kernel, rfl, by decide +kernel, by decide +kernel⟩
theorem ok_hangs_by1 {aW aL : Addr} (F : Fun K "hangs_by" "hangs_by" s_hangs_by f fd) (C_need_way : Cal1 P w K mg base "need_way" 3 ["thing"] (spNeedWay1 aW)) (C_need_place : Cal1 P w K mg base "need_place" 22 ["way", "thing"] (spNeedPlace1 aL)) (C_times_and_plus : Cal P w K mg base "times_and_plus" 42 ["way", "place"] (spTp 20)) : FnOk P w K mg base (CX1 P w) 43 f fd ["way", "place"] (spHangs1 aW aL) := by
  refine Fun.ok1 F sc_hangs_by (fun vs H Q E h => ?_) (fun cdv A outer s H vs Q E hr h => ?_)
  · obtain ⟨d, v, e, u, rfl, _⟩ := h
    rfl
  obtain ⟨d, v, e, u, rfl, hd, he, q1, q2⟩ := h
  refine ⟨_, (@pss_cons _ _ _ _ _ (@ps_expr _ _ _ _ (@pe_cal1 _ _ _ _ _ _ _ _ _ _ _ _ C_need_way pass1 hr (by omega) rfl (@pa_cons _ _ _ _ _ (@pv _ 0 _ _ (by rfl) (by first | exact Or.inl rfl | exact Or.inr ( Or.inl rfl ) | exact Or.inr ( Or.inr rfl )) (by decide) (by decide)) pa_nil (by rfl)) (by decide) (by rfl) (by rfl)) (by rfl)) (@pss_cons _ _ _ _ _ (@ps_expr _ _ _ _ (@pe_cal1 _ _ _ _ _ _ _ _ _ _ _ _ C_need_place pass1 hr (by omega) rfl (@pa_cons _ _ _ _ _ (@pv _ 0 _ _ (by rfl) (by first | exact Or.inl rfl | exact Or.inr ( Or.inl rfl ) | exact Or.inr ( Or.inr rfl )) (by decide) (by decide)) (@pa_cons _ _ _ _ _ (@pv _ 1 _ _ (by rfl) (by first | exact Or.inl rfl | exact Or.inr ( Or.inl rfl ) | exact Or.inr ( Or.inr rfl )) (by decide) (by decide)) pa_nil (by rfl)) (by rfl)) (by decide) (by rfl) (by rfl)) (by rfl)) (@pss_one _ _ _ (@ps_ret _ _ _ _ (@pe_cal _ _ _ _ _ _ _ _ _ _ _ C_times_and_plus hr (by omega) rfl (@pa_cons _ _ _ _ _ (@pv _ 0 _ _ (by rfl) (by first | exact Or.inl rfl | exact Or.inr ( Or.inl rfl ) | exact Or.inr ( Or.inr rfl )) (by decide) (by decide)) (@pa_cons _ _ _ _ _ (@pv _ 1 _ _ (by rfl) (by first | exact Or.inl rfl | exact Or.inr ( Or.inl rfl ) | exact Or.inr ( Or.inr rfl )) (by decide) (by decide)) pa_nil (by rfl)) (by rfl)) (by decide) (by rfl) (by rfl)))))), ?_⟩
  refine ⟨_, rfl, d, v, rfl, hd, fun c H1 g1 => ?_, fun c H1 g1 => q1 c H1 g1⟩
  obtain ⟨wy, hw, h9, hB, q3, q4⟩ := q2 c
  have dl := wy.deep_le
  refine ⟨_, rfl, _, rfl, wy, v, e, u, rfl, hw.mono (Tups.of g1), by omega, Dat.mono g1 e u he, fun c2 H2 g2 => ?_, fun c2 H2 g2 => q3 c2 H2 (g1.trans g2)⟩
  obtain ⟨p, rfl⟩ : ∃ p, e = .int p := by cases e <;> first | exact ⟨_, rfl⟩ | exact absurd c2 (by simp [plD])
  have eu : u = .int p := by simpa [Dat] using he
  subst eu
  exact ⟨_, rfl, _, rfl, wy, v, p, rfl, hw.mono (Tups.of (g1.trans g2)), by omega, by omega, hB, fun a H3 g3 n3 e3 => q4 c2 a H3 ((g1.trans g2).trans g3)⟩
/-- a whole number -/
def whD : PyData → Bool
  | .int _ => true
  | _ => false
def spWith1 (aW aN aL : Addr) : Sp := fun vs H Q E => ∃ d v e u b x, vs = [v, u, x] ∧ Dat H d v ∧ Dat H e u ∧ Dat H b x ∧ (isWayD d = false → ∀ H', Same H H' → E (.ref aW) none H') ∧
  (isWayD d = true → ∃ wy, WyIn H wy v ∧ wy.size ≤ 9 ∧ (plD wy.size e = false → ∀ H', Same H H' → E (.ref aL) none H') ∧ (plD wy.size e = true → (whD b = false → ∀ H', Same H H' → E (.ref aN) none H') ∧ (whD b = true → ∀ y H', Same H H' → Q y H')))
abbrev s_with_number : Stmt := top 26
theorem sc_with_number : FnScope ["way", "place", "number"] ["way", "place", "number"] (defScope s_with_number) := ⟨rfl, rfl, rfl, by decide +kernel, rfl, by decide +kernel, by decide +kernel⟩
theorem ok_with_number1 {aW aN aL : Addr} (F : Fun K "with_number" "with_number" s_with_number f fd) (C_need_way : Cal1 P w K mg base "need_way" 3 ["thing"] (spNeedWay1 aW)) (C_need_place : Cal1 P w K mg base "need_place" 22 ["way", "thing"] (spNeedPlace1 aL)) (C_need_whole : Cal1 P w K mg base "need_whole" 2 ["thing"] (spNeedWhole1 K aN)) (C_put_number : Cal P w K mg base "put_number" 42 ["way", "place", "number"] (spPutN 20)) : FnOk P w K mg base (CX1 P w) 43 f fd ["way", "place", "number"] (spWith1 aW aN aL) := by
  refine Fun.ok1 F sc_with_number (fun vs H Q E h => ?_) (fun cdv A outer s H vs Q E hr h => ?_)
  · obtain ⟨d, v, e, u, b, x, rfl, _⟩ := h
    rfl
  obtain ⟨d, v, e, u, b, x, rfl, hd, he, hb, q1, q2⟩ := h
  refine ⟨_, (@pss_cons _ _ _ _ _ (@ps_expr _ _ _ _ (@pe_cal1 _ _ _ _ _ _ _ _ _ _ _ _ C_need_way pass1 hr (by omega) rfl (@pa_cons _ _ _ _ _ (@pv _ 0 _ _ (by rfl) (by first | exact Or.inl rfl | exact Or.inr ( Or.inl rfl ) | exact Or.inr ( Or.inr rfl )) (by decide) (by decide)) pa_nil (by rfl)) (by decide) (by rfl) (by rfl)) (by rfl)) (@pss_cons _ _ _ _ _ (@ps_expr _ _ _ _ (@pe_cal1 _ _ _ _ _ _ _ _ _ _ _ _ C_need_place pass1 hr (by omega) rfl (@pa_cons _ _ _ _ _ (@pv _ 0 _ _ (by rfl) (by first | exact Or.inl rfl | exact Or.inr ( Or.inl rfl ) | exact Or.inr ( Or.inr rfl )) (by decide) (by decide)) (@pa_cons _ _ _ _ _ (@pv _ 1 _ _ (by rfl) (by first | exact Or.inl rfl | exact Or.inr ( Or.inl rfl ) | exact Or.inr ( Or.inr rfl )) (by decide) (by decide)) pa_nil (by rfl)) (by rfl)) (by decide) (by rfl) (by rfl)) (by rfl)) (@pss_cons _ _ _ _ _ (@ps_expr _ _ _ _ (@pe_cal1 _ _ _ _ _ _ _ _ _ _ _ _ C_need_whole pass1 hr (by omega) rfl (@pa_cons _ _ _ _ _ (@pv _ 2 _ _ (by rfl) (by first | exact Or.inl rfl | exact Or.inr ( Or.inl rfl ) | exact Or.inr ( Or.inr rfl )) (by decide) (by decide)) pa_nil (by rfl)) (by decide) (by rfl) (by rfl)) (by rfl)) (@pss_one _ _ _ (@ps_ret _ _ _ _ (@pe_cal _ _ _ _ _ _ _ _ _ _ _ C_put_number hr (by omega) rfl (@pa_cons _ _ _ _ _ (@pv _ 0 _ _ (by rfl) (by first | exact Or.inl rfl | exact Or.inr ( Or.inl rfl ) | exact Or.inr ( Or.inr rfl )) (by decide) (by decide)) (@pa_cons _ _ _ _ _ (@pv _ 1 _ _ (by rfl) (by first | exact Or.inl rfl | exact Or.inr ( Or.inl rfl ) | exact Or.inr ( Or.inr rfl )) (by decide) (by decide)) (@pa_cons _ _ _ _ _ (@pv _ 2 _ _ (by rfl) (by first | exact Or.inl rfl | exact Or.inr ( Or.inl rfl ) | exact Or.inr ( Or.inr rfl )) (by decide) (by decide)) pa_nil (by rfl)) (by rfl)) (by rfl)) (by decide) (by rfl) (by rfl))))))), ?_⟩
  refine ⟨_, rfl, d, v, rfl, hd, fun c H1 g1 => ?_, fun c H1 g1 => q1 c H1 g1⟩
  obtain ⟨wy, hw, h9, q3, q4⟩ := q2 c
  have dl := wy.deep_le
  refine ⟨_, rfl, _, rfl, wy, v, e, u, rfl, hw.mono (Tups.of g1), by omega, Dat.mono g1 e u he, fun c2 H2 g2 => ?_, fun c2 H2 g2 => q3 c2 H2 (g1.trans g2)⟩
  obtain ⟨p, rfl⟩ : ∃ p, e = .int p := by cases e <;> first | exact ⟨_, rfl⟩ | exact absurd c2 (by simp [plD])
  have eu : u = .int p := by simpa [Dat] using he
  subst eu
  obtain ⟨q5, q6⟩ := q4 c2
  have G2 := g1.trans g2
  have hb2 := Dat.mono G2 b x hb
  have nm : tyName b = "int" ↔ whD b = true := by cases b <;> simp [tyName, whD]
  refine ⟨_, rfl, x, tyName b, rfl, hb2.ty, fun c3 => ?_, fun c3 => q5 (by cases z : whD b with | false => rfl | true => exact absurd (nm.mpr z) c3) H2 G2⟩
  have c4 := nm.mp c3
  obtain ⟨m, rfl⟩ : ∃ m, b = .int m := by cases b <;> first | exact ⟨_, rfl⟩ | exact absurd c4 (by simp [whD])
  have ex : x = .int m := by simpa [Dat] using hb
  subst ex
  exact ⟨_, rfl, _, rfl, _, rfl, wy, v, p, m, rfl, hw.mono (Tups.of G2), by omega, by omega, fun y H3 g3 i3 => q6 c4 y H3 (G2.trans g3)⟩
end
end Put

set_option Elab.async false
set_option linter.all false
set_option maxRecDepth 100000
set_option maxHeartbeats 2000000
namespace Put
open PySem L2
section
variable {P : Program} {w : World} {K : PySem.W.Frag} {mg : Str → Option Value} {base : Heap} {f : Addr} {fd : FuncData}
/-- all the classes by their names -/
structure Xk (mg : Str → Option Value) (aR aS aW aN aL aF aO aA aH aT aM : Addr) : Prop where
  mNoRow : mg "NoRow" = some (.ref aR)
  mNoSigns : mg "NoSigns" = some (.ref aS)
  mNoWay : mg "NoWay" = some (.ref aW)
  mNoNumber : mg "NoNumber" = some (.ref aN)
  mNoPlace : mg "NoPlace" = some (.ref aL)
  mNoFit : mg "NoFit" = some (.ref aF)
  mNoForm : mg "NoForm" = some (.ref aO)
  mNoAsk : mg "NoAsk" = some (.ref aA)
  mNoHolds : mg "NoHolds" = some (.ref aH)
  mNoText : mg "NoText" = some (.ref aT)
  mTooMany : mg "TooMany" = some (.ref aM)
  iValueError : mg "ValueError" = none
/-- C is the class number j -/
structure Kd (K : PySem.W.Frag) (aR aS aW aN aL aF aO aA aH aT aM C : Addr) (j : Nat) : Prop where
  ex : ExC K C
  lt : j < 7
  k0 : PySem.W.kitOne K (.ref C) (.ref aR) = some (decide (j = 0))
  k1 : PySem.W.kitOne K (.ref C) (.ref aS) = some (decide (j = 1))
  k2 : PySem.W.kitOne K (.ref C) (.ref aW) = some (decide (j = 2))
  k3 : PySem.W.kitOne K (.ref C) (.ref aN) = some (decide (j = 3))
  k4 : PySem.W.kitOne K (.ref C) (.ref aL) = some (decide (j = 4))
  k5 : PySem.W.kitOne K (.ref C) (.ref aF) = some (decide (j = 5))
  k6 : PySem.W.kitOne K (.ref C) (.ref aO) = some (decide (j = 6))
  ka : PySem.W.kitAny K (.ref C) [.ref aA, .ref aH, .ref aT, .ref aM] = some false
  kv : PySem.W.kitOne K (.ref C) (.type "ValueError") = some true
def kdNames : List V := [.str "NoRow", .str "NoSigns", .str "NoWay", .str "NoNumber", .str "NoPlace", .str "NoFit", .str "NoForm"]
def kdBs (j : Nat) : List Bool := [decide (j = 0), decide (j = 1), decide (j = 2), decide (j = 3), decide (j = 4), decide (j = 5), decide (j = 6)]
def spKind (K : PySem.W.Frag) (aR aS aW aN aL aF aO aA aH aT aM : Addr) : Sp := fun vs H Q _ => ∃ ea C j nm, vs = [.ref ea] ∧ H ea = some (excV ea C) ∧ Kd K aR aS aW aN aL aF aO aA aH aT aM C j ∧ kdNames[j]? = some nm ∧ ∀ H', Same H H' → Q nm H'
theorem kd_count {j : Nat} (h : j < 7) : (kdBs j).countP id = 1 := by
  match j, h with
  | 0, _ => rfl
  | 1, _ => rfl
  | 2, _ => rfl
  | 3, _ => rfl
  | 4, _ => rfl
  | 5, _ => rfl
  | 6, _ => rfl
theorem kd_at {j : Nat} (h : j < 7) : (kdBs j)[j]? = some true ∧ ∀ m, m < j → (kdBs j)[m]? = some false := by
  match j, h with
  | 0, _ => exact ⟨rfl, fun m hm => absurd hm (by omega)⟩
  | 1, _ => exact ⟨rfl, by decide⟩
  | 2, _ => exact ⟨rfl, by decide⟩
  | 3, _ => exact ⟨rfl, by decide⟩
  | 4, _ => exact ⟨rfl, by decide⟩
  | 5, _ => exact ⟨rfl, by decide⟩
  | 6, _ => exact ⟨rfl, by decide⟩
abbrev s__law_kind : Stmt := top 43
theorem sc__law_kind : FnScope ["caught", "names", "kinds", "odd"] ["caught"] (defScope s__law_kind) := ⟨rfl, rfl, rfl, by decide +kernel, rfl, by decide +kernel, by decide +kernel⟩
theorem ok_kind {aR aS aW aN aL aF aO aA aH aT aM : Addr} (F : Fun K "_law_kind" "_law_kind" s__law_kind f fd) (B : Bu K mg) (XK : Xk mg aR aS aW aN aL aF aO aA aH aT aM) : FnOk P w K mg base CX0 1 f fd ["caught"] (spKind K aR aS aW aN aL aF aO aA aH aT aM) := by
  refine F.ok sc__law_kind (fun vs H Q E h => ?_) (fun cdv A outer s H vs Q E hr h => ?_)
  · obtain ⟨ea, C, j, nm, rfl, _⟩ := h
    rfl
  obtain ⟨ea, C, j, nm, rfl, he, kd, hn, q⟩ := h
  refine ⟨_, (@pss_cons _ _ _ _ _ (@ps_set _ _ (1) _ _ _ _ (sc__law_kind).nd rfl (Or.inl rfl) (@pe_lst _ _ _ _ (@pa_cons _ _ _ _ _ pe_str (@pa_cons _ _ _ _ _ pe_str (@pa_cons _ _ _ _ _ pe_str (@pa_cons _ _ _ _ _ pe_str (@pa_cons _ _ _ _ _ pe_str (@pa_cons _ _ _ _ _ pe_str (@pa_cons _ _ _ _ _ pe_str pa_nil (by rfl)) (by rfl)) (by rfl)) (by rfl)) (by rfl)) (by rfl)) (by rfl))) (by rfl) (by first | exact .inl rfl | exact .inr rfl | assumption)) (@pss_cons _ _ _ _ _ (@ps_set _ _ (2) _ _ _ _ (sc__law_kind).nd rfl (Or.inl rfl) (@pe_lst _ _ _ _ (@pa_cons _ _ _ _ _ (@pe_callB _ _ _ _ _ _ _ _ _ call_isinstE rfl B.iisinstance PyProof.Rows.boot_isinstance (@pa_cons _ _ _ _ _ (@pv _ 0 _ _ (by rfl) (by first | exact Or.inl rfl | exact Or.inr ( Or.inl rfl ) | exact Or.inr ( Or.inr rfl )) (by decide) (by decide)) (@pa_cons _ _ _ _ _ (@pe_glob _ _ (.ref aR) _ _ rfl XK.mNoRow rfl (by decide)) pa_nil (by rfl)) (by rfl)) (by decide) (by decide) (by rfl) (by rfl)) (@pa_cons _ _ _ _ _ (@pe_callB _ _ _ _ _ _ _ _ _ call_isinstE rfl B.iisinstance PyProof.Rows.boot_isinstance (@pa_cons _ _ _ _ _ (@pv _ 0 _ _ (by rfl) (by first | exact Or.inl rfl | exact Or.inr ( Or.inl rfl ) | exact Or.inr ( Or.inr rfl )) (by decide) (by decide)) (@pa_cons _ _ _ _ _ (@pe_glob _ _ (.ref aS) _ _ rfl XK.mNoSigns rfl (by decide)) pa_nil (by rfl)) (by rfl)) (by decide) (by decide) (by rfl) (by rfl)) (@pa_cons _ _ _ _ _ (@pe_callB _ _ _ _ _ _ _ _ _ call_isinstE rfl B.iisinstance PyProof.Rows.boot_isinstance (@pa_cons _ _ _ _ _ (@pv _ 0 _ _ (by rfl) (by first | exact Or.inl rfl | exact Or.inr ( Or.inl rfl ) | exact Or.inr ( Or.inr rfl )) (by decide) (by decide)) (@pa_cons _ _ _ _ _ (@pe_glob _ _ (.ref aW) _ _ rfl XK.mNoWay rfl (by decide)) pa_nil (by rfl)) (by rfl)) (by decide) (by decide) (by rfl) (by rfl)) pa_nil (by rfl)) (by rfl)) (by rfl))) (by rfl) (by first | exact .inl rfl | exact .inr rfl | assumption)) (@pss_cons _ _ _ _ _ (@ps_set _ _ (2) _ _ _ _ (sc__law_kind).nd rfl (Or.inl rfl) (@pe_op _ _ _ _ _ _ _ _ op_cat (@pv _ 2 _ _ (by rfl) (by first | exact Or.inl rfl | exact Or.inr ( Or.inl rfl ) | exact Or.inr ( Or.inr rfl )) (by decide) (by decide)) (@pe_lst _ _ _ _ (@pa_cons _ _ _ _ _ (@pe_callB _ _ _ _ _ _ _ _ _ call_isinstE rfl B.iisinstance PyProof.Rows.boot_isinstance (@pa_cons _ _ _ _ _ (@pv _ 0 _ _ (by rfl) (by first | exact Or.inl rfl | exact Or.inr ( Or.inl rfl ) | exact Or.inr ( Or.inr rfl )) (by decide) (by decide)) (@pa_cons _ _ _ _ _ (@pe_glob _ _ (.ref aN) _ _ rfl XK.mNoNumber rfl (by decide)) pa_nil (by rfl)) (by rfl)) (by decide) (by decide) (by rfl) (by rfl)) (@pa_cons _ _ _ _ _ (@pe_callB _ _ _ _ _ _ _ _ _ call_isinstE rfl B.iisinstance PyProof.Rows.boot_isinstance (@pa_cons _ _ _ _ _ (@pv _ 0 _ _ (by rfl) (by first | exact Or.inl rfl | exact Or.inr ( Or.inl rfl ) | exact Or.inr ( Or.inr rfl )) (by decide) (by decide)) (@pa_cons _ _ _ _ _ (@pe_glob _ _ (.ref aL) _ _ rfl XK.mNoPlace rfl (by decide)) pa_nil (by rfl)) (by rfl)) (by decide) (by decide) (by rfl) (by rfl)) (@pa_cons _ _ _ _ _ (@pe_callB _ _ _ _ _ _ _ _ _ call_isinstE rfl B.iisinstance PyProof.Rows.boot_isinstance (@pa_cons _ _ _ _ _ (@pv _ 0 _ _ (by rfl) (by first | exact Or.inl rfl | exact Or.inr ( Or.inl rfl ) | exact Or.inr ( Or.inr rfl )) (by decide) (by decide)) (@pa_cons _ _ _ _ _ (@pe_glob _ _ (.ref aF) _ _ rfl XK.mNoFit rfl (by decide)) pa_nil (by rfl)) (by rfl)) (by decide) (by decide) (by rfl) (by rfl)) pa_nil (by rfl)) (by rfl)) (by rfl)))) (by rfl) (by first | exact .inl rfl | exact .inr rfl | assumption)) (@pss_cons _ _ _ _ _ (@ps_expr _ _ _ _ (@pe_bm _ _ _ _ _ _ _ _ _ _ _ _ PySem.F.plainAttrs_list PySem.F.slot_list_append PySem.F.type_list_append mt_append (@pv _ 2 _ _ (by rfl) (by first | exact Or.inl rfl | exact Or.inr ( Or.inl rfl ) | exact Or.inr ( Or.inr rfl )) (by decide) (by decide)) (@pa_cons _ _ _ _ _ (@pe_callB _ _ _ _ _ _ _ _ _ call_isinstE rfl B.iisinstance PyProof.Rows.boot_isinstance (@pa_cons _ _ _ _ _ (@pv _ 0 _ _ (by rfl) (by first | exact Or.inl rfl | exact Or.inr ( Or.inl rfl ) | exact Or.inr ( Or.inr rfl )) (by decide) (by decide)) (@pa_cons _ _ _ _ _ (@pe_glob _ _ (.ref aO) _ _ rfl XK.mNoForm rfl (by decide)) pa_nil (by rfl)) (by rfl)) (by decide) (by decide) (by rfl) (by rfl)) pa_nil (by rfl)) (by rfl) (by rfl) (by rfl) (by rfl) (by rfl)) (by rfl)) (@pss_cons _ _ _ _ _ (@ps_set _ _ (3) _ _ _ _ (sc__law_kind).nd rfl (Or.inl rfl) (@pe_callB _ _ _ _ _ _ _ _ _ call_isinstEs rfl B.iisinstance PyProof.Rows.boot_isinstance (@pa_cons _ _ _ _ _ (@pv _ 0 _ _ (by rfl) (by first | exact Or.inl rfl | exact Or.inr ( Or.inl rfl ) | exact Or.inr ( Or.inr rfl )) (by decide) (by decide)) (@pa_cons _ _ _ _ _ (@pe_tup _ _ _ _ _ (@pa_cons _ _ _ _ _ (@pe_glob _ _ (.ref aA) _ _ rfl XK.mNoAsk rfl (by decide)) (@pa_cons _ _ _ _ _ (@pe_glob _ _ (.ref aH) _ _ rfl XK.mNoHolds rfl (by decide)) (@pa_cons _ _ _ _ _ (@pe_glob _ _ (.ref aT) _ _ rfl XK.mNoText rfl (by decide)) (@pa_cons _ _ _ _ _ (@pe_glob _ _ (.ref aM) _ _ rfl XK.mTooMany rfl (by decide)) pa_nil (by rfl)) (by rfl)) (by rfl)) (by rfl))) pa_nil (by rfl)) (by rfl)) (by decide) (by decide) (by rfl) (by rfl)) (by rfl) (by first | exact .inl rfl | exact .inr rfl | assumption)) (@pss_cons _ _ _ _ _ (@ps_if _ _ _ _ _ _ _ _ (@PW.pt _ _ _ (@pw_or _ _ _ _ _ _ _ (@pt_truth _ _ _ (@pv _ 3 _ _ (by rfl) (by first | exact Or.inl rfl | exact Or.inr ( Or.inl rfl ) | exact Or.inr ( Or.inr rfl )) (by decide) (by decide)) (fun _ => rfl)) (@pw_or _ _ _ _ _ _ _ (@pt_not _ _ _ _ (@pt_val _ _ _ (@pe_callB _ _ _ _ _ _ _ _ _ call_isinstE rfl B.iisinstance PyProof.Rows.boot_isinstance (@pa_cons _ _ _ _ _ (@pv _ 0 _ _ (by rfl) (by first | exact Or.inl rfl | exact Or.inr ( Or.inl rfl ) | exact Or.inr ( Or.inr rfl )) (by decide) (by decide)) (@pa_cons _ _ _ _ _ (@pe_bltn _ _ (.ty "ValueError") _ _ rfl XK.iValueError (by decide +kernel) rfl (by decide) (by decide)) pa_nil (by rfl)) (by rfl)) (by decide) (by decide) (by rfl) (by rfl)) (by intro _; rfl))) (@pw_or1 _ _ _ _ (@pt_cmpR _ _ _ _ _ _ _ _ op_ne (@pe_bm _ _ _ _ _ _ _ _ _ _ _ _ PySem.F.plainAttrs_list PySem.F.slot_list_count PySem.F.type_list_count (@mt_countB _ hr.units) (@pv _ 2 _ _ (by rfl) (by first | exact Or.inl rfl | exact Or.inr ( Or.inl rfl ) | exact Or.inr ( Or.inr rfl )) (by decide) (by decide)) (@pa_cons _ _ _ _ _ pe_bl pa_nil (by rfl)) (by rfl) (by rfl) (by rfl) (by rfl) (by rfl)) pe_int (nomark _)))))) (@pss_one _ _ _ (@ps_ret _ _ _ _ pe_str)) pss_nil) (@pss_one _ _ _ (@ps_ret _ _ _ _ (@pe_ix _ _ _ _ _ _ _ ix_list (@pv _ 1 _ _ (by rfl) (by first | exact Or.inl rfl | exact Or.inr ( Or.inl rfl ) | exact Or.inr ( Or.inr rfl )) (by decide) (by decide)) (@pe_bm _ _ _ _ _ _ _ _ _ _ _ _ PySem.F.plainAttrs_list PySem.F.slot_list_index PySem.F.type_list_index (@mt_indexB _ hr.units) (@pv _ 2 _ _ (by rfl) (by first | exact Or.inl rfl | exact Or.inr ( Or.inl rfl ) | exact Or.inr ( Or.inr rfl )) (by decide) (by decide)) (@pa_cons _ _ _ _ _ pe_bl pa_nil (by rfl)) (by rfl) (by rfl) (by rfl) (by rfl) (by rfl)) (fun _ _ => rfl)))))))))), ?_⟩
  refine ⟨(by show 7 ≤ sizeLine; decide), fun pn nn => ?_⟩
  have g1 := Same.new nn (.lst kdNames)
  have e1 := g1 _ _ he
  refine ⟨_, rfl, ea, C, _, _, _, rfl, e1, kd.ex, fun _ z => z, kd.k0, _, rfl, ea, C, _, _, _, rfl, e1, kd.ex, fun _ z => z, kd.k1, _, rfl, ea, C, _, _, _, rfl, e1, kd.ex, fun _ z => z, kd.k2, (by show 3 ≤ sizeLine; decide), fun pk nk => ?_⟩
  have g2 := Same.new nk (.lst [.bl (decide (j = 0)), .bl (decide (j = 1)), .bl (decide (j = 2))])
  have e2 := g2 _ _ e1
  refine ⟨_, rfl, _, rfl, ea, C, _, _, _, rfl, e2, kd.ex, fun _ z => z, kd.k3, _, rfl, ea, C, _, _, _, rfl, e2, kd.ex, fun _ z => z, kd.k4, _, rfl, ea, C, _, _, _, rfl, e2, kd.ex, fun _ z => z, kd.k5, (by show 3 ≤ sizeLine; decide), fun pl nl => ?_⟩
  have g3 := Same.new nl (.lst [.bl (decide (j = 3)), .bl (decide (j = 4)), .bl (decide (j = 5))])
  refine ⟨pk, pl, _, _, rfl, rfl, g3 _ _ upd_same, upd_same, (by show 6 ≤ sizeLine; decide), fun pm nm' => ?_⟩
  have g4 := Same.new nm' (.lst ([.bl (decide (j = 0)), .bl (decide (j = 1)), .bl (decide (j = 2))] ++ [.bl (decide (j = 3)), .bl (decide (j = 4)), .bl (decide (j = 5))]))
  have e4 := g4 _ _ (g3 _ _ e2)
  have ek : upd (upd (upd (upd H pn (.lst kdNames)) pk (.lst [.bl (decide (j = 0)), .bl (decide (j = 1)), .bl (decide (j = 2))])) pl (.lst [.bl (decide (j = 3)), .bl (decide (j = 4)), .bl (decide (j = 5))])) pm (.lst ([.bl (decide (j = 0)), .bl (decide (j = 1)), .bl (decide (j = 2))] ++ [.bl (decide (j = 3)), .bl (decide (j = 4)), .bl (decide (j = 5))])) pm = some (.lst [.bl (decide (j = 0)), .bl (decide (j = 1)), .bl (decide (j = 2)), .bl (decide (j = 3)), .bl (decide (j = 4)), .bl (decide (j = 5))]) := upd_same
  have en := (g2.trans (g3.trans g4)) _ _ (upd_same (H := H) (a := pn) (o := .lst kdNames))
  have nm0 : H pm = none := (g1.trans (g2.trans g3)).free nm'
  have pne : pn ≠ pm := ne_of_none ((g2.trans g3) _ _ (upd_same (H := H) (a := pn) (o := .lst kdNames))) nm'
  have eane : ea ≠ pm := ne_of_none he nm0
  have G4 := g1.trans (g2.trans (g3.trans g4))
  refine ⟨_, rfl, .inl ⟨rfl, _, SqL.of ek⟩, _, rfl, ea, C, _, _, _, rfl, e4, kd.ex, fun _ z => z, kd.k6, pm, _, _, rfl, rfl, ek, (by show 6 < sizeLine; decide), ?_⟩
  have x5 : ∀ b o, b ≠ pm → upd (upd (upd (upd H pn (.lst kdNames)) pk (.lst [.bl (decide (j = 0)), .bl (decide (j = 1)), .bl (decide (j = 2))])) pl (.lst [.bl (decide (j = 3)), .bl (decide (j = 4)), .bl (decide (j = 5))])) pm (.lst ([.bl (decide (j = 0)), .bl (decide (j = 1)), .bl (decide (j = 2))] ++ [.bl (decide (j = 3)), .bl (decide (j = 4)), .bl (decide (j = 5))])) b = some o →
      upd (upd (upd (upd (upd H pn (.lst kdNames)) pk (.lst [.bl (decide (j = 0)), .bl (decide (j = 1)), .bl (decide (j = 2))])) pl (.lst [.bl (decide (j = 3)), .bl (decide (j = 4)), .bl (decide (j = 5))])) pm (.lst ([.bl (decide (j = 0)), .bl (decide (j = 1)), .bl (decide (j = 2))] ++ [.bl (decide (j = 3)), .bl (decide (j = 4)), .bl (decide (j = 5))]))) pm (.lst ((kdBs j).map V.bl)) b = some o := fun b o hb z => by rw [upd_ne hb]; exact z
  have G5 := G4.upd (o := .lst ((kdBs j).map V.bl)) nm0
  have e5 := x5 _ _ eane e4
  have en5 := x5 _ _ pne en
  refine ⟨_, rfl, (by show 4 ≤ sizeLine; decide), fun pt nt => ?_⟩
  have g6 := Same.new nt (.tup [.ref aA, .ref aH, .ref aT, .ref aM])
  refine ⟨ea, C, pt, _, [.ref aA, .ref aH, .ref aT, .ref aM], false, rfl, g6 _ _ e5, upd_same, kd.ex, fun us' r => ?_, kd.ka, ?_⟩
  · cases r with
    | cons a r => cases r with
      | cons b r => cases r with
        | cons c r => cases r with
          | cons d r => cases r; cases a; cases b; cases c; cases d; rfl
  have e6 := g6 _ _ e5
  have ek6 := g6 pm (.lst ((kdBs j).map V.bl)) upd_same
  have en6 := g6 _ _ en5
  refine ⟨_, rfl, false, (by first | rfl | exact .bl _ | exact .inl rfl), iteF ?_⟩
  refine ⟨_, rfl, ea, C, _, _, _, rfl, e6, kd.ex, fun _ z => z, kd.kv, true, rfl, iteF ?_⟩
  refine ⟨_, rfl, .inl ⟨rfl, _, SqL.of ek6⟩, pm, kdBs j, rfl, rfl, SqL.of ek6, ?_⟩
  rw [kd_count kd.lt]
  refine ⟨rfl, _, rfl, iteNS rfl ?_⟩
  obtain ⟨k1, k2⟩ := kd_at kd.lt
  refine ⟨_, rfl, _, rfl, .inl ⟨rfl, _, SqL.of ek6⟩, pm, kdBs j, j, rfl, rfl, SqL.of ek6, k1, k2, (by show 7 ≤ 1000; decide), ?_⟩
  exact ⟨pn, _, _, nm, rfl, rfl, SqL.of en6, atI_nat hn, q _ (G5.trans g6)⟩
end
end Put

set_option Elab.async false
set_option linter.all false
set_option maxRecDepth 100000
set_option maxHeartbeats 2000000
namespace Put
open PySem L2
/-- how many numbers a way has, 0 for what is none -/
def mnD (d : PyData) : Nat := match cntD d with | some n => if n ≤ 9 then n else 0 | none => 0
theorem mn_way (d : PyData) : isWayD d = decide (0 < mnD d) := by
  unfold isWayD mnD
  cases e : cntD d with
  | none => rfl
  | some n =>
    have := cntD_pos d n e
    show decide (n ≤ 9) = decide (0 < if n ≤ 9 then n else 0)
    by_cases c : n ≤ 9
    · rw [if_pos c, decide_eq_true c, decide_eq_true (by omega)]
    · rw [if_neg c, decide_eq_false c]; rfl
theorem Left.badM {n : Nat} {ds : List PyData} {d d0 : PyData} (h : Left n (ds ++ [d]) d0) (e : cntD d = none) : mnD d0 = 0 := by
  have z := h.bad e
  rw [mn_way] at z
  have := of_decide_eq_false z
  omega
theorem Left.doneM {n : Nat} {d0 : PyData} (h : Left n [] d0) : mnD d0 = if n ≤ 9 then n else 0 := by
  unfold Left at h
  unfold mnD
  rw [h]
  show (if 0 + n ≤ 9 then 0 + n else 0) = _
  rw [Nat.zero_add]
section
variable {P : Program} {w : World} {K : PySem.W.Frag} {mg : Str → Option Value} {base : Heap} {f : Addr} {fd : FuncData}
def spLWhole : Sp := fun vs H Q _ => ∃ d v, vs = [v] ∧ Dat H d v ∧ Q (.bl (whD d)) H
abbrev s__law_whole : Stmt := top 44
theorem sc__law_whole : FnScope ["thing"] ["thing"] (defScope s__law_whole) := ⟨rfl, rfl, rfl, by decide +kernel, rfl, by decide +kernel, by decide +kernel⟩
theorem ok_law_whole (F : Fun K "_law_whole" "_law_whole" s__law_whole f fd) (B : Bu K mg) : FnOk P w K mg base CX0 1 f fd ["thing"] spLWhole := by
  refine F.ok sc__law_whole (fun vs H Q E h => ?_) (fun cdv A outer s H vs Q E hr h => ?_)
  · obtain ⟨d, v, rfl, _⟩ := h
    rfl
  obtain ⟨d, v, rfl, hd, q⟩ := h
  refine ⟨_, (@pss_one _ _ _ (@ps_ret _ _ _ _ (@pe_and _ _ _ _ _ _ _ (@pe_callB _ _ _ _ _ _ _ _ _ (@call_isinst _ ("int")) rfl B.iisinstance PyProof.Rows.boot_isinstance (@pa_cons _ _ _ _ _ (@pv _ 0 _ _ (by rfl) (by first | exact Or.inl rfl | exact Or.inr ( Or.inl rfl ) | exact Or.inr ( Or.inr rfl )) (by decide) (by decide)) (@pa_cons _ _ _ _ _ (@pe_bltn _ _ (.ty "int") _ _ rfl B.iint PyProof.Rows.boot_int rfl (by decide) (by decide)) pa_nil (by rfl)) (by rfl)) (by decide) (by decide) (by rfl) (by rfl)) (@pe_one _ _ _ _ _ (@pe_not _ _ _ _ (@pe_callB _ _ _ _ _ _ _ _ _ (@call_isinst _ ("bool")) rfl B.iisinstance PyProof.Rows.boot_isinstance (@pa_cons _ _ _ _ _ (@pv _ 0 _ _ (by rfl) (by first | exact Or.inl rfl | exact Or.inr ( Or.inl rfl ) | exact Or.inr ( Or.inr rfl )) (by decide) (by decide)) (@pa_cons _ _ _ _ _ (@pe_bltn _ _ (.ty "bool") _ _ rfl B.ibool PyProof.Rows.boot_bool rfl (by decide) (by decide)) pa_nil (by rfl)) (by rfl)) (by decide) (by decide) (by rfl) (by rfl))))))), ?_⟩
  cases d with
  | int i => exact ⟨_, rfl, _, _, true, rfl, hd.ty, rfl, true, rfl, iteT ⟨_, rfl, _, _, false, rfl, hd.ty, rfl, false, rfl, q⟩⟩
  | bool b => exact ⟨_, rfl, _, _, true, rfl, hd.ty, rfl, true, rfl, iteT ⟨_, rfl, _, _, true, rfl, hd.ty, rfl, true, rfl, q⟩⟩
  | none => exact ⟨_, rfl, _, _, false, rfl, hd.ty, rfl, false, rfl, iteF q⟩
  | str b => exact ⟨_, rfl, _, _, false, rfl, hd.ty, rfl, false, rfl, iteF q⟩
  | list b => exact ⟨_, rfl, _, _, false, rfl, hd.ty, rfl, false, rfl, iteF q⟩
  | tuple b => exact ⟨_, rfl, _, _, false, rfl, hd.ty, rfl, false, rfl, iteF q⟩
  | dict b => exact ⟨_, rfl, _, _, false, rfl, hd.ty, rfl, false, rfl, iteF q⟩
def spMany : Sp := fun vs H Q _ => ∃ d v, vs = [v] ∧ Dat H d v ∧ szD d ≤ 900 ∧ ∀ H', Same H H' → Q (.int (mnD d : Nat)) H'
def LmInv (H : Hp) (d0 : PyData) (v : V) (m : Nat) (σ : St) (H' : Hp) : Prop := ∃ (n : Nat) (ds : List PyData) (vs : List V) (pw : Addr) (one : Option V), σ = [some v, some (.ref pw), some (.int n), one] ∧ H pw = none ∧ H' pw = some (.lst vs) ∧ DatAll H ds vs ∧ Same H H' ∧ Left n ds d0 ∧ szL ds ≤ 900 ∧ n + szL ds ≤ 900 ∧ m = szL ds
abbrev s__law_many : Stmt := top 45
theorem sc__law_many : FnScope ["thing", "waiting", "many", "one"] ["thing"] (defScope s__law_many) := ⟨rfl, rfl, rfl, by decide +kernel, rfl, by decide +kernel, by decide +kernel⟩
theorem ok_law_many (F : Fun K "_law_many" "_law_many" s__law_many f fd) (B : Bu K mg) (C__law_whole : Cal P w K mg base "_law_whole" 1 ["thing"] spLWhole) : FnOk P w K mg base CX0 2 f fd ["thing"] spMany := by
  refine F.ok sc__law_many (fun vs H Q E h => ?_) (fun cdv A outer s H vs Q E hr h => ?_)
  · obtain ⟨x, v, rfl, _⟩ := h
    rfl
  obtain ⟨d0, v, rfl, hd0, hsz, q⟩ := h
  refine ⟨_, (@pss_cons _ _ _ _ _ (@ps_set _ _ (1) _ _ _ _ (sc__law_many).nd rfl (Or.inl rfl) (@pe_lst _ _ _ _ (@pa_cons _ _ _ _ _ (@pv _ 0 _ _ (by rfl) (by first | exact Or.inl rfl | exact Or.inr ( Or.inl rfl ) | exact Or.inr ( Or.inr rfl )) (by decide) (by decide)) pa_nil (by rfl))) (by rfl) (by first | exact .inl rfl | exact .inr rfl | assumption)) (@pss_cons _ _ _ _ _ (@ps_set _ _ (2) _ _ _ _ (sc__law_many).nd rfl (Or.inl rfl) pe_int (by rfl) (by first | exact .inl rfl | exact .inr rfl | assumption)) (@pss_cons _ _ _ _ _ (@ps_while _ _ _ _ _ _ PassesOwn.never (@pt_cmpR _ _ _ _ _ _ _ _ (@op_neL _ hr.units) (@pv _ 1 _ _ (by rfl) (by first | exact Or.inl rfl | exact Or.inr ( Or.inl rfl ) | exact Or.inr ( Or.inr rfl )) (by decide) (by decide)) (@pe_lst _ _ _ _ pa_nil) (nomark _)) (@pss_cons _ _ _ _ _ (@ps_set _ _ (3) _ _ _ _ (sc__law_many).nd rfl (Or.inl rfl) (@pe_bm0 _ _ _ _ _ _ _ _ _ PySem.F.plainAttrs_list PySem.F.slot_list_pop PySem.F.type_list_pop mt_pop (@pv _ 1 _ _ (by rfl) (by first | exact Or.inl rfl | exact Or.inr ( Or.inl rfl ) | exact Or.inr ( Or.inr rfl )) (by decide) (by decide)) (by rfl) (by rfl)) (by rfl) (by first | exact .inl rfl | exact .inr rfl | assumption)) (@pss_one _ _ _ (@ps_if _ _ _ _ _ _ _ _ (@pt_val _ _ _ (@pe_callB _ _ _ _ _ _ _ _ _ (@call_isinst _ ("tuple")) rfl B.iisinstance PyProof.Rows.boot_isinstance (@pa_cons _ _ _ _ _ (@pv _ 3 _ _ (by rfl) (by first | exact Or.inl rfl | exact Or.inr ( Or.inl rfl ) | exact Or.inr ( Or.inr rfl )) (by decide) (by decide)) (@pa_cons _ _ _ _ _ (@pe_bltn _ _ (.ty "tuple") _ _ rfl B.ituple PyProof.Rows.boot_tuple rfl (by decide) (by decide)) pa_nil (by rfl)) (by rfl)) (by decide) (by decide) (by rfl) (by rfl)) (by intro _; rfl)) (@pss_cons _ _ _ _ _ (@ps_if _ _ _ _ _ _ _ _ (@PW.pt _ _ _ (@pw_or _ _ _ _ _ _ _ (@pt_cmpR _ _ _ _ _ _ _ _ op_ne (@pe_callB _ _ _ _ _ _ _ _ _ call_len_seq rfl B.ilen PySem.boot_len (@pa_cons _ _ _ _ _ (@pv _ 3 _ _ (by rfl) (by first | exact Or.inl rfl | exact Or.inr ( Or.inl rfl ) | exact Or.inr ( Or.inr rfl )) (by decide) (by decide)) pa_nil (by rfl)) (by decide) (by decide) (by rfl) (by rfl)) pe_int (nomark _)) (@pw_or _ _ _ _ _ _ _ (@pt_not _ _ _ _ (@pt_val _ _ _ (@pe_callB _ _ _ _ _ _ _ _ _ (@call_isinst _ ("str")) rfl B.iisinstance PyProof.Rows.boot_isinstance (@pa_cons _ _ _ _ _ (@pe_ix _ _ _ _ _ _ _ ix_tup (@pv _ 3 _ _ (by rfl) (by first | exact Or.inl rfl | exact Or.inr ( Or.inl rfl ) | exact Or.inr ( Or.inr rfl )) (by decide) (by decide)) pe_int (fun _ _ => rfl)) (@pa_cons _ _ _ _ _ (@pe_bltn _ _ (.ty "str") _ _ rfl B.istr PyProof.Rows.boot_str rfl (by decide) (by decide)) pa_nil (by rfl)) (by rfl)) (by decide) (by decide) (by rfl) (by rfl)) (by intro _; rfl))) (@pw_or1 _ _ _ _ (@pt_cmpR _ _ _ _ _ _ _ _ op_notIn_seq (@pe_ix _ _ _ _ _ _ _ ix_tup (@pv _ 3 _ _ (by rfl) (by first | exact Or.inl rfl | exact Or.inr ( Or.inl rfl ) | exact Or.inr ( Or.inr rfl )) (by decide) (by decide)) pe_int (fun _ _ => rfl)) (@pe_lst _ _ _ _ (@pa_cons _ _ _ _ _ pe_str (@pa_cons _ _ _ _ _ pe_str (@pa_cons _ _ _ _ _ pe_str pa_nil (by rfl)) (by rfl)) (by rfl))) (by with_unfolding_all rfl)))))) (@pss_one _ _ _ (@ps_ret _ _ _ _ pe_int)) pss_nil) (@pss_one _ _ _ (@ps_set _ _ (1) _ _ _ _ (sc__law_many).nd rfl (Or.inl rfl) (@pe_op _ _ _ _ _ _ _ _ op_cat (@pv _ 1 _ _ (by rfl) (by first | exact Or.inl rfl | exact Or.inr ( Or.inl rfl ) | exact Or.inr ( Or.inr rfl )) (by decide) (by decide)) (@pe_lst _ _ _ _ (@pa_cons _ _ _ _ _ (@pe_ix _ _ _ _ _ _ _ ix_tup (@pv _ 3 _ _ (by rfl) (by first | exact Or.inl rfl | exact Or.inr ( Or.inl rfl ) | exact Or.inr ( Or.inr rfl )) (by decide) (by decide)) pe_int (fun _ _ => rfl)) (@pa_cons _ _ _ _ _ (@pe_ix _ _ _ _ _ _ _ ix_tup (@pv _ 3 _ _ (by rfl) (by first | exact Or.inl rfl | exact Or.inr ( Or.inl rfl ) | exact Or.inr ( Or.inr rfl )) (by decide) (by decide)) pe_int (fun _ _ => rfl)) pa_nil (by rfl)) (by rfl)))) (by rfl) (by first | exact .inl rfl | exact .inr rfl | assumption)))) (@pss_one _ _ _ (@ps_if _ _ _ _ _ _ _ _ (@pt_not _ _ _ _ (@pt_val _ _ _ (@pe_cal _ _ _ _ _ _ _ _ _ _ _ C__law_whole hr (by omega) rfl (@pa_cons _ _ _ _ _ (@pv _ 3 _ _ (by rfl) (by first | exact Or.inl rfl | exact Or.inr ( Or.inl rfl ) | exact Or.inr ( Or.inr rfl )) (by decide) (by decide)) pa_nil (by rfl)) (by decide) (by rfl) (by rfl)) (by intro _; rfl))) (@pss_one _ _ _ (@ps_ret _ _ _ _ pe_int)) (@pss_one _ _ _ (@ps_set _ _ (2) _ _ _ _ (sc__law_many).nd rfl (Or.inl rfl) (@pe_op _ _ _ _ _ _ _ _ op_add (@pv _ 2 _ _ (by rfl) (by first | exact Or.inl rfl | exact Or.inr ( Or.inl rfl ) | exact Or.inr ( Or.inr rfl )) (by decide) (by decide)) pe_int) (by rfl) (by first | exact .inl rfl | exact .inr rfl | assumption))))))))) (@pss_one _ _ _ (@ps_ret _ _ _ _ (@pe_op _ _ _ _ _ _ _ _ op_mul (@pv _ 2 _ _ (by rfl) (by first | exact Or.inl rfl | exact Or.inr ( Or.inl rfl ) | exact Or.inr ( Or.inr rfl )) (by decide) (by decide)) (@pe_callTy _ _ _ _ _ _ _ _ _ call_int1 rfl B.iint PyProof.Rows.boot_int (@pa_cons _ _ _ _ _ (@pe_cmpR _ _ _ _ _ _ _ _ op_lt (@pv _ 2 _ _ (by rfl) (by first | exact Or.inl rfl | exact Or.inr ( Or.inl rfl ) | exact Or.inr ( Or.inr rfl )) (by decide) (by decide)) pe_int (nomark _)) pa_nil (by rfl)) (by decide) (by decide) (by rfl) (by rfl)))))))), ?_⟩
  refine ⟨_, rfl, (by show 1 ≤ sizeLine; decide), fun p hp => ?_⟩
  refine ⟨LmInv H d0 v, ?_, ?_⟩
  · refine ⟨_, 0, [d0], [v], p, _, rfl, hp, upd_same, DatAll.one hd0, Same.new hp _, ?_, by simpa [szL] using hsz, by simpa [szL] using hsz, rfl⟩
    unfold Left
    have e : tot [d0] = (match cntD d0, some 0 with | some a, some b => some (a + b) | _, _ => none) := rfl
    rw [e]
    cases cntD d0 <;> simp
  rintro m σ H' ⟨n, ds, vs, pw, one, rfl, nw, ew, hall, hS, hL, hz, hz2, rfl⟩
  have hlen := hall.len
  have hls := len_szL ds
  refine ⟨_, rfl, (by show 0 ≤ sizeLine; decide), fun p0 n0 => ?_⟩
  have g0 := Same.new n0 (.lst [])
  refine ⟨0, pw, p0, vs, [], by decide, rfl, rfl, SqL.of (g0 _ _ ew), SqL.of upd_same, ?_⟩
  by_cases ne : vs = []
  · subst ne
    have e : ds = [] := List.length_eq_zero_iff.mp hlen
    subst e
    refine .inr ⟨fun _ => true, rfl, (fun j x y h => by simp at h), false, rfl, iteF ?_⟩
    have z := q _ (hS.trans g0)
    rw [hL.doneM] at z
    refine ⟨_, rfl, _, rfl, _, _, rfl, rfl, .inr ⟨_, rfl, ?_⟩⟩
    have e3 : ((if n ≤ 9 then n else 0 : Nat) : Int) = (n : Int) * (if decide ((n : Int) < 10) = true then 1 else 0) := by
      by_cases c : n ≤ 9
      · rw [if_pos c, if_pos (decide_eq_true (by omega))]; omega
      · rw [if_neg c, if_neg (by simpa using (by omega : (10 : Int) ≤ n))]; simp
    rw [e3] at z
    exact ⟨_, _, rfl, rfl, .inl ⟨by omega, by omega⟩, z⟩
  refine .inl ⟨by simpa using ne, true, rfl, iteT ⟨fun σ' H' => ∃ m', m' < szL ds ∧ LmInv H d0 v m' σ' H', fun _ _ h => h, ?_⟩⟩
  obtain ⟨ds', d, vs', v', rfl, rfl, hall', hd⟩ := hall.last ne
  have ew0 := g0 _ _ ew
  have hS0 := hS.trans g0
  rw [szL_snoc] at hz hz2 ⊢
  have zp := szD_pos d
  have hlen' := hall'.len
  have hls' := len_szL ds'
  refine ⟨_, rfl, .inl ⟨rfl, _, SqL.of ew0⟩, pw, _, v', rfl, rfl, ew0, last_at _ _, ?_⟩
  rw [trunc]
  have hS1 : Same H (upd (upd H' p0 (.lst [])) pw (.lst vs')) := hS0.upd nw
  have ew1 : upd (upd H' p0 (.lst [])) pw (.lst vs') pw = _ := upd_same
  revert hS1 ew1
  generalize upd (upd H' p0 (.lst [])) pw (.lst vs') = H1
  intro hS1 ew1
  have hd1 := Dat.mono hS1 d v' hd
  have bad : cntD d = none → ∀ H2, Same H1 H2 → Q (.int 0) H2 := fun e H2 g2 => by
    have z := q _ (hS1.trans g2)
    rw [hL.badM e] at z; exact z
  cases d with
  | int i =>
    refine ⟨_, rfl, _, _, false, rfl, hd1.ty, rfl, false, rfl, iteF ?_⟩
    refine ⟨_, rfl, _, _, rfl, hd1, true, rfl, iteF ?_⟩
    refine ⟨_, rfl, _, _, rfl, rfl, ?_⟩
    exact ⟨szL ds', by simp only [szD]; omega, n + 1, ds', vs', pw, _, rfl, nw, ew1, hall', hS1, hL.num, by omega, by omega, rfl⟩
  | tuple xs =>
    have ty := hd1.ty (K := K)
    simp only [Dat] at hd
    obtain ⟨a, us, rfl, ha, hxs⟩ := hd
    have ha1 := hS1 _ _ ha
    refine ⟨_, rfl, _, _, true, rfl, ty, rfl, true, rfl, iteT ?_⟩
    have lx := hxs.len
    refine ⟨_, rfl, a, _, rfl, .inr (SqT.of ha1), rfl, _, rfl, ?_⟩
    by_cases c3 : us.length = 3
    · obtain ⟨s, l, r, x, y, z, rfl, rfl, h1, h2, h3⟩ := dat3 hxs c3
      refine iteNS rfl ?_
      have h1' := Dat.mono hS1 s x h1
      by_cases hs : ∃ zs, s = .str zs
      · obtain ⟨zs, rfl⟩ := hs
        have ex : x = .str zs := by simpa only [Dat] using h1
        subst ex
        refine ⟨_, rfl, a, _, _, _, rfl, rfl, SqT.of ha1, rfl, _, _, true, rfl, .str zs, rfl, true, rfl, iteF ?_⟩
        refine ⟨_, rfl, a, _, _, _, rfl, rfl, SqT.of ha1, rfl, (by show 3 ≤ sizeLine; decide), fun p2 n2 => ⟨p2, _, rfl, .inl (SqL.of upd_same), rfl, rfl, !isSg zs, rfl, ?_⟩⟩
        have g2 := Same.new n2 (.lst [.str "+", .str "-", .str "*"])
        cases hg : isSg zs with
        | true =>
          refine iteF ?_
          refine ⟨_, rfl, _, rfl, a, _, _, _, rfl, rfl, SqT.of (g2 _ _ ha1), rfl, _, rfl, a, _, _, _, rfl, rfl, SqT.of (g2 _ _ ha1), rfl, (by show 2 ≤ sizeLine; decide), fun p3 n3 => ?_⟩
          have g3 := Same.new n3 (.lst [y, z])
          refine ⟨pw, p3, _, _, rfl, rfl, g3 _ _ (g2 _ _ ew1), upd_same, le_line (by show vs'.length + 2 ≤ 1000; omega), fun p4 n4 => ?_⟩
          have g4 := Same.new n4 (.lst (vs' ++ [y, z]))
          have G := (hS1.trans g2).trans (g3.trans g4)
          have sp := szD_pos (PyData.str zs)
          refine ⟨szL (ds' ++ [l] ++ [r]), ?_, n, ds' ++ [l] ++ [r], vs' ++ [y, z], p4, _, rfl, ((hS1.trans g2).trans g3).free n4, upd_same, ?_, G, hL.node (by simpa only [sgD] using hg), ?_, ?_, rfl⟩
          · rw [szL_snoc, szL_snoc]; simp only [szD, szAll]; omega
          · rw [List.append_assoc]
            exact hall'.app ((DatAll.one h2).app (DatAll.one h3))
          · rw [szL_snoc, szL_snoc]; simp only [szD, szAll] at hz; omega
          · rw [szL_snoc, szL_snoc]; simp only [szD, szAll] at hz2; omega
        | false => exact iteT (bad (cnt_sg (by simpa only [sgD] using hg)) _ g2)
      · have tyx := h1'.ty (K := K)
        have hsg : sgD s = false := by cases s <;> first | rfl | exact absurd ⟨_, rfl⟩ hs
        have hb : PySem.W.kitOne K (.type (tyName s)) (.type "str") = some false := by cases s <;> first | rfl | exact absurd ⟨_, rfl⟩ hs
        refine ⟨_, rfl, a, _, _, _, rfl, rfl, SqT.of ha1, rfl, _, _, false, rfl, tyx, hb, false, rfl, iteT ?_⟩
        exact bad (cnt_sg hsg) H1 (Same.refl _)
    · refine iteNN (fun e => c3 (by injection e with e; omega)) ?_
      exact bad (cnt_len (by omega)) H1 (Same.refl _)
  | bool b => exact ⟨_, rfl, _, _, false, rfl, hd1.ty, rfl, false, rfl, iteF ⟨_, rfl, _, _, rfl, hd1, false, rfl, iteT (bad (by simp only [cntD]) H1 (Same.refl _))⟩⟩
  | none => exact ⟨_, rfl, _, _, false, rfl, hd1.ty, rfl, false, rfl, iteF ⟨_, rfl, _, _, rfl, hd1, false, rfl, iteT (bad (by simp only [cntD]) H1 (Same.refl _))⟩⟩
  | str b => exact ⟨_, rfl, _, _, false, rfl, hd1.ty, rfl, false, rfl, iteF ⟨_, rfl, _, _, rfl, hd1, false, rfl, iteT (bad (by simp only [cntD]) H1 (Same.refl _))⟩⟩
  | list b => exact ⟨_, rfl, _, _, false, rfl, hd1.ty, rfl, false, rfl, iteF ⟨_, rfl, _, _, rfl, hd1, false, rfl, iteT (bad (by simp only [cntD]) H1 (Same.refl _))⟩⟩
  | dict b => exact ⟨_, rfl, _, _, false, rfl, hd1.ty, rfl, false, rfl, iteF ⟨_, rfl, _, _, rfl, hd1, false, rfl, iteT (bad (by simp only [cntD]) H1 (Same.refl _))⟩⟩
end
end Put

set_option Elab.async false
set_option linter.all false
set_option maxRecDepth 100000
set_option maxHeartbeats 2000000
namespace Put
open PySem L2
theorem sg_of {z : Str} (h : isSg z = true) : ∃ g : Sg, z = g.str := by
  have h' : inV (.str z) [.str "+", .str "-", .str "*"] = true := h
  by_cases c1 : z = "+"
  · exact ⟨.plus, c1⟩
  by_cases c2 : z = "-"
  · exact ⟨.minus, c2⟩
  by_cases c3 : z = "*"
  · exact ⟨.times, c3⟩
  exfalso
  revert h'
  simp [inV, eqV, Ne.symm c1, Ne.symm c2, Ne.symm c3]
theorem cnt_way : ∀ (d : PyData) (n : Nat) (H : Hp) (v : V), cntD d = some n → Dat H d v → OkD d → ∃ wy : Wy, WyIn H wy v ∧ wy.size = n ∧ wy.Sm
  | .int i, n, H, v, h, hd, ok => by
    simp only [cntD, Option.some.injEq] at h
    simp only [Dat] at hd
    simp only [OkD] at ok
    refine ⟨.num i, hd, h, fun j hj => ?_⟩
    rw [List.mem_singleton.mp hj]; exact ok
  | .tuple ds, n, H, v, h, hd, ok => by
    simp only [cntD] at h
    match ds, h, hd, ok with
    | [], h, _, _ => simp [cntT] at h
    | [_], h, _, _ => simp [cntT] at h
    | [_, _], h, _, _ => simp [cntT] at h
    | [s, l, r], h, hd, ok =>
      simp only [cntT] at h
      simp only [OkD, OkAll] at ok
      simp only [Dat] at hd
      obtain ⟨a, xs, rfl, ha, hx⟩ := hd
      obtain ⟨_, _, _, x, y, z, e1, rfl, h1, h2, h3⟩ := dat3 hx (by rw [← hx.len]; rfl)
      injection e1 with e1 e2; injection e2 with e2 e3; injection e3 with e3 e4
      subst e1 e2 e3
      by_cases hs : sgD s = true
      · rw [if_pos hs] at h
        cases c1 : cntD l with
        | none => rw [c1] at h; cases h
        | some m =>
          cases c2 : cntD r with
          | none => rw [c1, c2] at h; cases h
          | some k =>
            rw [c1, c2] at h
            injection h with h
            obtain ⟨wl, w1, w2, w3⟩ := cnt_way l m H y c1 h2 ok.2.1
            obtain ⟨wr, u1, u2, u3⟩ := cnt_way r k H z c2 h3 ok.2.2.1
            cases s with
            | str zs =>
              obtain ⟨g, rfl⟩ := sg_of (show isSg zs = true from hs)
              simp only [Dat] at h1
              subst h1
              refine ⟨.node g wl wr, ⟨a, y, z, rfl, ha, w1, u1⟩, by show wl.size + wr.size = n; omega, fun i hi => ?_⟩
              rcases List.mem_append.mp hi with hi | hi
              · exact w3 i hi
              · exact u3 i hi
            | _ => exact absurd hs (by simp [sgD])
      · rw [if_neg hs] at h; cases h
    | _ :: _ :: _ :: _ :: _, h, _, _ => simp [cntT] at h
  | .none, n, H, v, h, _, _ => by simp [cntD] at h
  | .bool _, n, H, v, h, _, _ => by simp [cntD] at h
  | .str _, n, H, v, h, _, _ => by simp [cntD] at h
  | .list _, n, H, v, h, _, _ => by simp [cntD] at h
  | .dict _, n, H, v, h, _, _ => by simp [cntD] at h
theorem Wy.Sm.bd {w : Wy} (h : w.Sm) : w.Bd := fun i hi => Nat.lt_trans (h i hi) (by decide)
theorem way_in {d : PyData} {H : Hp} {v : V} (h : isWayD d = true) (hd : Dat H d v) (ok : OkD d) : ∃ wy : Wy, WyIn H wy v ∧ wy.size ≤ 9 ∧ wy.Bd ∧ wy.size = mnD d := by
  unfold isWayD at h
  cases e : cntD d with
  | none => rw [e] at h; cases h
  | some n =>
    rw [e] at h
    have h9 : n ≤ 9 := of_decide_eq_true h
    obtain ⟨wy, w1, w2, w3⟩ := cnt_way d n H v e hd ok
    exact ⟨wy, w1, by omega, w3.bd, by unfold mnD; rw [e, w2]; show n = if n ≤ 9 then n else 0; rw [if_pos h9]⟩
/-- what the program tells of a door -/
def toldS (k : Int) (d e b : PyData) : Str :=
  if isWayD d = false then "NoWay" else if k < 2 then "told" else if plD (mnD d) e = false then "NoPlace" else if k = 2 then "told" else if whD b = false then "NoNumber" else "told"
section
variable {P : Program} {w : World} {K : PySem.W.Frag} {mg : Str → Option Value} {base : Heap} {f : Addr} {fd : FuncData}
def spTold : Sp := fun vs H Q _ => ∃ k d v e u b x, vs = [.int k, v, u, x] ∧ 0 ≤ k ∧ k ≤ 3 ∧ Dat H d v ∧ Dat H e u ∧ Dat H b x ∧ OkD d ∧ ∀ H', Same H H' → Q (.str (toldS k d e b)) H'
abbrev s__law_told : Stmt := top 46
theorem sc__law_told : FnScope ["door", "way", "place", "number", "caught", "e"] ["door", "way", "place", "number"] (defScope s__law_told) := ⟨rfl, rfl, rfl, by decide +kernel, rfl, by decide +kernel, by decide +kernel⟩
theorem ok_told {aP aR aS aW aN aL aF aO aA aH aT aM fW fS : Addr} (F : Fun K "_law_told" "_law_told" s__law_told f fd) (B : Bu K mg) (XC : Xc K mg aP aW aN aL) (D2 : Kd K aR aS aW aN aL aF aO aA aH aT aM aW 2) (D3 : Kd K aR aS aW aN aL aF aO aA aH aT aM aN 3) (D4 : Kd K aR aS aW aN aL aF aO aA aH aT aM aL 4)
    (m_worth_of : mg "worth_of" = some (.ref fW)) (m_part_worths : mg "part_worths" = some (.ref fS)) (V_worth_of : CalF P w K mg base fW 22 ["way"] (spWorthOf1 aW)) (V_part_worths : CalF P w K mg base fS 43 ["way"] (spPartWorths1 aW))
    (C_hangs_by : Cal1 P w K mg base "hangs_by" 43 ["way", "place"] (spHangs1 aW aL)) (C_with_number : Cal1 P w K mg base "with_number" 43 ["way", "place", "number"] (spWith1 aW aN aL)) (C__law_kind : Cal P w K mg base "_law_kind" 1 ["caught"] (spKind K aR aS aW aN aL aF aO aA aH aT aM)) : FnOk P w K mg base CX0 44 f fd ["door", "way", "place", "number"] spTold := by
  refine F.ok sc__law_told (fun vs H Q E h => ?_) (fun cdv A outer s H vs Q E hr h => ?_)
  · obtain ⟨k, d, v, e, u, b, x, rfl, _⟩ := h
    rfl
  obtain ⟨k, d, v, e, u, b, x, rfl, k0, k3, hd, he, hb, ok, q⟩ := h
  refine ⟨_, (@pss_cons _ _ _ _ _ (@ps_set _ _ (4) _ _ _ _ (sc__law_told).nd rfl (Or.inl rfl) pe_non (by rfl) (by first | exact .inl rfl | exact .inr rfl | assumption)) (@pss_cons _ _ _ _ _ (@ps_try _ _ _ _ (5) _ _ _ _ _ _ _ _ rfl rfl rfl rfl XC.mPutError (sc__law_told).nd rfl rfl (fun _ _ => (pss_one (ps_if (pt_cmpR op_lt (pv 0) pe_int (nomark _)) (pss_one (ps_expr (pe_calV rfl hr (pe_ix (ix_listK rfl) (pe_lst (pa_cons (pe_glob (v := .ref fW) rfl m_worth_of rfl) (pa_cons (pe_glob (v := .ref fS) rfl m_part_worths rfl) pa_nil))) (pv 0) (fun _ _ => rfl)) (pa_cons (pv 1) pa_nil)))) (pss_one (ps_if (pt_cmpR op_eq (pv 0) pe_int (nomark _)) (pss_one (ps_expr (pe_calT C_hangs_by rfl hr (by omega) rfl (pa_cons (pv 1) (pa_cons (pv 2) pa_nil))))) (pss_one (ps_expr (pe_calT C_with_number rfl hr (by omega) rfl (pa_cons (pv 1) (pa_cons (pv 2) (pa_cons (pv 3) pa_nil))))))))))) (fun _ => (pss_one (ps_set (i := 4) (sc__law_told).nd rfl (Or.inl rfl) (pv 5)))) (by decide)) (@pss_one _ _ _ (@ps_ret _ _ _ _ (@pe_ifExp _ _ _ _ _ _ _ _ (@pt_cmpR _ _ _ _ _ _ _ _ op_isN (@pv _ 4 _ _ (by rfl) (by first | exact Or.inl rfl | exact Or.inr ( Or.inl rfl ) | exact Or.inr ( Or.inr rfl )) (by decide) (by decide)) pe_non (nomark _)) pe_str (@pe_cal _ _ _ _ _ _ _ _ _ _ _ C__law_kind hr (by omega) rfl (@pa_cons _ _ _ _ _ (@pv _ 4 _ _ (by rfl) (by first | exact Or.inl rfl | exact Or.inr ( Or.inl rfl ) | exact Or.inr ( Or.inr rfl )) (by decide) (by decide)) pa_nil (by rfl)) (by decide) (by rfl) (by rfl))))))), ?_⟩
  -- what a caught one comes to
  have caught : ∀ (C : Addr) (j : Nat) (nm : Str), Kd K aR aS aW aN aL aF aO aA aH aT aM C j → kdNames[j]? = some (.str nm) → toldS k d e b = nm → ∀ H1, Same H H1 → ∀ ea, H1 ea = none → ∀ H2, Same (upd H1 ea (excV ea C)) H2 → Q (.str nm) H2 := fun C j nm _ _ et H1 g1 ea ne H2 g2 => by
    have z := q H2 ((g1.trans (Same.new ne _)).trans g2)
    rw [et] at z; exact z
  have wayF : ∀ k', isWayD d = false → toldS k' d e b = "NoWay" := fun k' c => by unfold toldS; rw [if_pos c]
  have wayT : isWayD d = true → ¬ isWayD d = false := fun c z => by rw [c] at z; cases z
  have plF : ∀ k', ¬ k' < 2 → isWayD d = true → plD (mnD d) e = false → toldS k' d e b = "NoPlace" := fun k' hk c c2 => by unfold toldS; rw [if_neg (wayT c), if_neg hk, if_pos c2]
  have cases4 : k = 0 ∨ k = 1 ∨ k = 2 ∨ k = 3 := by omega
  rcases cases4 with rfl | rfl | rfl | rfl
  · refine ⟨_, rfl, _, _, rfl, rfl, true, rfl, iteT ?_⟩
    refine ⟨(by show 2 ≤ sizeLine; decide), fun p np => ⟨_, rfl, p, _, _, _, rfl, rfl, SqL.of upd_same, rfl, fW, 22, _, _, rfl, V_worth_of, by decide, _, rfl, d, v, rfl, Dat.mono (Same.new np _) d v hd, fun c => ?_, fun c H1 g1 C hC => ?_⟩⟩
    · obtain ⟨wy, w1, w2, w3, w4⟩ := way_in c (Dat.mono (Same.new np _) d v hd) ok
      refine ⟨wy, w1, w2, w3, fun H1 g1 => ?_⟩
      have z := q H1 ((Same.new np _).trans g1)
      have e1 : toldS 0 d e b = "told" := by unfold toldS; rw [if_neg (wayT c), if_pos (by decide)]
      rw [e1] at z
      exact ⟨_, rfl, rfl, true, rfl, iteT z⟩
    · cases hC
      refine ⟨XC.uNoWay, fun ea ne => ?_⟩
      exact ⟨_, rfl, _, rfl, rfl, false, rfl, iteF ⟨_, rfl, ea, _, 2, _, rfl, upd_same, D2, rfl, fun H2 g2 => caught _ 2 _ D2 rfl (wayF _ c) H1 ((Same.new np _).trans g1) ea ne H2 g2⟩⟩
  · refine ⟨_, rfl, _, _, rfl, rfl, true, rfl, iteT ?_⟩
    refine ⟨(by show 2 ≤ sizeLine; decide), fun p np => ⟨_, rfl, p, _, _, _, rfl, rfl, SqL.of upd_same, rfl, fS, 43, _, _, rfl, V_part_worths, by decide, _, rfl, d, v, rfl, Dat.mono (Same.new np _) d v hd, fun c => ?_, fun c H1 g1 C hC => ?_⟩⟩
    · obtain ⟨wy, w1, w2, w3, w4⟩ := way_in c (Dat.mono (Same.new np _) d v hd) ok
      refine ⟨wy, w1, w2, w3, fun p1 H1 g1 _ _ => ?_⟩
      have z := q H1 ((Same.new np _).trans g1)
      have e1 : toldS 1 d e b = "told" := by unfold toldS; rw [if_neg (wayT c), if_pos (by decide)]
      rw [e1] at z
      exact ⟨_, rfl, rfl, true, rfl, iteT z⟩
    · cases hC
      refine ⟨XC.uNoWay, fun ea ne => ?_⟩
      exact ⟨_, rfl, _, rfl, rfl, false, rfl, iteF ⟨_, rfl, ea, _, 2, _, rfl, upd_same, D2, rfl, fun H2 g2 => caught _ 2 _ D2 rfl (wayF _ c) H1 ((Same.new np _).trans g1) ea ne H2 g2⟩⟩
  · refine ⟨_, rfl, _, _, rfl, rfl, false, rfl, iteF ?_⟩
    refine ⟨_, rfl, rfl, true, rfl, iteT ?_⟩
    refine ⟨_, rfl, _, rfl, d, v, e, u, rfl, hd, he, fun c H1 g1 C hC => ?_, fun c => ?_⟩
    · cases hC
      refine ⟨XC.uNoWay, fun ea ne => ?_⟩
      exact ⟨_, rfl, _, rfl, rfl, false, rfl, iteF ⟨_, rfl, ea, _, 2, _, rfl, upd_same, D2, rfl, fun H2 g2 => caught _ 2 _ D2 rfl (wayF _ c) H1 g1 ea ne H2 g2⟩⟩
    · obtain ⟨wy, w1, w2, w3, w4⟩ := way_in c hd ok
      refine ⟨wy, w1, w2, w3, fun c2 H1 g1 C hC => ?_, fun c2 a H1 g1 => ?_⟩
      · cases hC
        rw [w4] at c2
        refine ⟨XC.uNoPlace, fun ea ne => ?_⟩
        exact ⟨_, rfl, _, rfl, rfl, false, rfl, iteF ⟨_, rfl, ea, _, 4, _, rfl, upd_same, D4, rfl, fun H2 g2 => caught _ 4 _ D4 rfl (plF _ (by decide) c c2) H1 g1 ea ne H2 g2⟩⟩
      · rw [w4] at c2
        have z := q H1 g1
        have e1 : toldS 2 d e b = "told" := by unfold toldS; rw [if_neg (wayT c), if_neg (by decide), if_neg (fun y => by rw [c2] at y; cases y), if_pos rfl]
        rw [e1] at z
        exact ⟨_, rfl, rfl, true, rfl, iteT z⟩
  · refine ⟨_, rfl, _, _, rfl, rfl, false, rfl, iteF ?_⟩
    refine ⟨_, rfl, rfl, false, rfl, iteF ?_⟩
    refine ⟨_, rfl, _, rfl, _, rfl, d, v, e, u, b, x, rfl, hd, he, hb, fun c H1 g1 C hC => ?_, fun c => ?_⟩
    · cases hC
      refine ⟨XC.uNoWay, fun ea ne => ?_⟩
      exact ⟨_, rfl, _, rfl, rfl, false, rfl, iteF ⟨_, rfl, ea, _, 2, _, rfl, upd_same, D2, rfl, fun H2 g2 => caught _ 2 _ D2 rfl (wayF _ c) H1 g1 ea ne H2 g2⟩⟩
    · obtain ⟨wy, w1, w2, w3, w4⟩ := way_in c hd ok
      refine ⟨wy, w1, w2, fun c2 H1 g1 C hC => ?_, fun c2 => ⟨fun c3 H1 g1 C hC => ?_, fun c3 y H1 g1 => ?_⟩⟩
      · cases hC
        rw [w4] at c2
        refine ⟨XC.uNoPlace, fun ea ne => ?_⟩
        exact ⟨_, rfl, _, rfl, rfl, false, rfl, iteF ⟨_, rfl, ea, _, 4, _, rfl, upd_same, D4, rfl, fun H2 g2 => caught _ 4 _ D4 rfl (plF _ (by decide) c c2) H1 g1 ea ne H2 g2⟩⟩
      · cases hC
        rw [w4] at c2
        have e1 : toldS 3 d e b = "NoNumber" := by unfold toldS; rw [if_neg (wayT c), if_neg (by decide), if_neg (fun y => by rw [c2] at y; cases y), if_neg (by decide), if_pos c3]
        refine ⟨XC.uNoNumber, fun ea ne => ?_⟩
        exact ⟨_, rfl, _, rfl, rfl, false, rfl, iteF ⟨_, rfl, ea, _, 3, _, rfl, upd_same, D3, rfl, fun H2 g2 => caught _ 3 _ D3 rfl e1 H1 g1 ea ne H2 g2⟩⟩
      · rw [w4] at c2
        have z := q H1 g1
        have e1 : toldS 3 d e b = "told" := by unfold toldS; rw [if_neg (wayT c), if_neg (by decide), if_neg (fun y => by rw [c2] at y; cases y), if_neg (by decide), if_neg (fun y => by rw [c3] at y; cases y)]
        rw [e1] at z
        exact ⟨_, rfl, rfl, true, rfl, iteT z⟩
end
end Put

set_option Elab.async false
set_option linter.all false
set_option maxRecDepth 100000
set_option maxHeartbeats 2000000
namespace Put
open PySem L2
/-- what can be shown -/
def PrD (d : PyData) : Prop := d.showable = true ∧ d.depth ≤ 50 ∧ d.shown.length ≤ 100000
theorem pr3 {d e b : PyData} (h1 : PrD d) (h2 : PrD e) (h3 : PrD b) : (PyData.list [d, e, b]).showable = true ∧ (PyData.list [d, e, b]).depth ≤ 60 ∧ (PyData.list [d, e, b]).shown.length ≤ sizeLine := by
  obtain ⟨a1, a2, a3⟩ := h1
  obtain ⟨b1, b2, b3⟩ := h2
  obtain ⟨c1, c2, c3⟩ := h3
  refine ⟨?_, ?_, ?_⟩
  · simp only [PyData.showable, PyData.showableAll, a1, b1, c1, Bool.and_self]
  · simp only [PyData.depth, PyData.depthAll]; omega
  · have z := listText_len_le (PyData.shownAll [d, e, b])
    have y := PyData.shownAll_length [d, e, b]
    simp only [PyData.shown]
    simp only [PyData.shownAll, List.map_cons, List.map_nil, List.sum_cons, List.sum_nil, List.length_cons, List.length_nil] at z ⊢
    exact Nat.le_trans (show _ ≤ 400000 by omega) (by rw [sizeLine_eq]; decide)
theorem pr_ok {d : PyData} (h : OkD d) (hs : szD d ≤ 900) (hd : d.depth ≤ 50) : PrD d := by
  have := ok_len d h
  exact ⟨ok_show d h, hd, by omega⟩
section
variable {P : Program} {w : World} {K : PySem.W.Frag} {mg : Str → Option Value} {base : Heap} {f : Addr} {fd : FuncData}
def spRight1 : Sp := fun vs H Q _ => ∃ d v e u b x, vs = [v, u, x] ∧ Dat H d v ∧ Dat H e u ∧ Dat H b x ∧ OkD d ∧ szD d ≤ 900 ∧ PrD d ∧ PrD e ∧ PrD b ∧ ∀ H', Same H H' → Q (.bl true) H'
abbrev s__law_right : Stmt := top 47
theorem sc__law_right : FnScope ["way", "place", "number", "kept", "many", "due"] ["way", "place", "number"] (defScope s__law_right) := ⟨rfl, rfl, rfl, by decide +kernel, rfl, by decide +kernel, by decide +kernel⟩
theorem ok_right (F : Fun K "_law_right" "_law_right" s__law_right f fd) (B : Bu K mg) (C__law_whole : Cal P w K mg base "_law_whole" 1 ["thing"] spLWhole) (C__law_many : Cal P w K mg base "_law_many" 2 ["thing"] spMany) (C__law_told : Cal P w K mg base "_law_told" 44 ["door", "way", "place", "number"] spTold) : FnOk P w K mg base CX0 45 f fd ["way", "place", "number"] spRight1 := by
  refine F.ok sc__law_right (fun vs H Q E h => ?_) (fun cdv A outer s H vs Q E hr h => ?_)
  · obtain ⟨d, v, e, u, b, x, rfl, _⟩ := h
    rfl
  obtain ⟨d, v, e, u, b, x, rfl, hd, he, hb, ok, hsz, pd, pe, pb, q⟩ := h
  refine ⟨_, (@pss_cons _ _ _ _ _ (@ps_set _ _ (3) _ _ _ _ (sc__law_right).nd rfl (Or.inl rfl) (@pe_callB _ _ _ _ _ _ _ _ _ (@call_repr _ hr.gd hr.units) rfl B.irepr PyProof.Rows.boot_repr (@pa_cons _ _ _ _ _ (@pe_lst _ _ _ _ (@pa_cons _ _ _ _ _ (@pv _ 0 _ _ (by rfl) (by first | exact Or.inl rfl | exact Or.inr ( Or.inl rfl ) | exact Or.inr ( Or.inr rfl )) (by decide) (by decide)) (@pa_cons _ _ _ _ _ (@pv _ 1 _ _ (by rfl) (by first | exact Or.inl rfl | exact Or.inr ( Or.inl rfl ) | exact Or.inr ( Or.inr rfl )) (by decide) (by decide)) (@pa_cons _ _ _ _ _ (@pv _ 2 _ _ (by rfl) (by first | exact Or.inl rfl | exact Or.inr ( Or.inl rfl ) | exact Or.inr ( Or.inr rfl )) (by decide) (by decide)) pa_nil (by rfl)) (by rfl)) (by rfl))) pa_nil (by rfl)) (by decide) (by decide) (by rfl) (by rfl)) (by rfl) (by first | exact .inl rfl | exact .inr rfl | assumption)) (@pss_cons _ _ _ _ _ (@ps_set _ _ (4) _ _ _ _ (sc__law_right).nd rfl (Or.inl rfl) (@pe_cal _ _ _ _ _ _ _ _ _ _ _ C__law_many hr (by omega) rfl (@pa_cons _ _ _ _ _ (@pv _ 0 _ _ (by rfl) (by first | exact Or.inl rfl | exact Or.inr ( Or.inl rfl ) | exact Or.inr ( Or.inr rfl )) (by decide) (by decide)) pa_nil (by rfl)) (by decide) (by rfl) (by rfl)) (by rfl) (by first | exact .inl rfl | exact .inr rfl | assumption)) (@pss_cons _ _ _ _ _ (@ps_set _ _ (5) _ _ _ _ (sc__law_right).nd rfl (Or.inl rfl) (@pe_ix _ _ _ _ _ _ _ ix_list (@pe_lst _ _ _ _ (@pa_cons _ _ _ _ _ pe_str (@pa_cons _ _ _ _ _ pe_str pa_nil (by rfl)) (by rfl))) (@pe_callTy _ _ _ _ _ _ _ _ _ call_int1 rfl B.iint PyProof.Rows.boot_int (@pa_cons _ _ _ _ _ (@pe_cmpR _ _ _ _ _ _ _ _ op_gt (@pv _ 4 _ _ (by rfl) (by first | exact Or.inl rfl | exact Or.inr ( Or.inl rfl ) | exact Or.inr ( Or.inr rfl )) (by decide) (by decide)) pe_int (nomark _)) pa_nil (by rfl)) (by decide) (by decide) (by rfl) (by rfl)) (fun _ _ => rfl)) (by rfl) (by first | exact .inl rfl | exact .inr rfl | assumption)) (@pss_cons _ _ _ _ _ (@ps_if _ _ _ _ _ _ _ _ (@PW.pt _ _ _ (@pw_or _ _ _ _ _ _ _ (@pt_cmpR _ _ _ _ _ _ _ _ op_ne (@pe_cal _ _ _ _ _ _ _ _ _ _ _ C__law_told hr (by omega) rfl (@pa_cons _ _ _ _ _ pe_int (@pa_cons _ _ _ _ _ (@pv _ 0 _ _ (by rfl) (by first | exact Or.inl rfl | exact Or.inr ( Or.inl rfl ) | exact Or.inr ( Or.inr rfl )) (by decide) (by decide)) (@pa_cons _ _ _ _ _ pe_int (@pa_cons _ _ _ _ _ pe_int pa_nil (by rfl)) (by rfl)) (by rfl)) (by rfl)) (by decide) (by rfl) (by rfl)) (@pv _ 5 _ _ (by rfl) (by first | exact Or.inl rfl | exact Or.inr ( Or.inl rfl ) | exact Or.inr ( Or.inr rfl )) (by decide) (by decide)) (nomark _)) (@pw_or1 _ _ _ _ (@pt_cmpR _ _ _ _ _ _ _ _ op_ne (@pe_cal _ _ _ _ _ _ _ _ _ _ _ C__law_told hr (by omega) rfl (@pa_cons _ _ _ _ _ pe_int (@pa_cons _ _ _ _ _ (@pv _ 0 _ _ (by rfl) (by first | exact Or.inl rfl | exact Or.inr ( Or.inl rfl ) | exact Or.inr ( Or.inr rfl )) (by decide) (by decide)) (@pa_cons _ _ _ _ _ pe_int (@pa_cons _ _ _ _ _ pe_int pa_nil (by rfl)) (by rfl)) (by rfl)) (by rfl)) (by decide) (by rfl) (by rfl)) (@pv _ 5 _ _ (by rfl) (by first | exact Or.inl rfl | exact Or.inr ( Or.inl rfl ) | exact Or.inr ( Or.inr rfl )) (by decide) (by decide)) (nomark _))))) (@pss_one _ _ _ (@ps_ret _ _ _ _ pe_bl)) pss_nil) (@pss_cons _ _ _ _ _ (@ps_if _ _ _ _ _ _ _ _ (@PW.pt _ _ _ (@pw_and _ _ _ _ _ _ _ (@pt_cmpR _ _ _ _ _ _ _ _ op_gt (@pv _ 4 _ _ (by rfl) (by first | exact Or.inl rfl | exact Or.inr ( Or.inl rfl ) | exact Or.inr ( Or.inr rfl )) (by decide) (by decide)) pe_int (nomark _)) (@pw_and1 _ _ _ _ (@pt_not _ _ _ _ (@PW.pt _ _ _ (@pw_and _ _ _ _ _ _ _ (@pt_val _ _ _ (@pe_cal _ _ _ _ _ _ _ _ _ _ _ C__law_whole hr (by omega) rfl (@pa_cons _ _ _ _ _ (@pv _ 1 _ _ (by rfl) (by first | exact Or.inl rfl | exact Or.inr ( Or.inl rfl ) | exact Or.inr ( Or.inr rfl )) (by decide) (by decide)) pa_nil (by rfl)) (by decide) (by rfl) (by rfl)) (by intro _; rfl)) (@pw_and1 _ _ _ _ (@pt_chain _ _ _ _ _ _ _ _ _ _ _ _ op_le op_lt pe_int (@pv _ 1 _ _ (by rfl) (by first | exact Or.inl rfl | exact Or.inr ( Or.inl rfl ) | exact Or.inr ( Or.inr rfl )) (by decide) (by decide)) (@pv _ 4 _ _ (by rfl) (by first | exact Or.inl rfl | exact Or.inr ( Or.inl rfl ) | exact Or.inr ( Or.inr rfl )) (by decide) (by decide)) (by with_unfolding_all rfl))))))))) (@pss_one _ _ _ (@ps_set _ _ (5) _ _ _ _ (sc__law_right).nd rfl (Or.inl rfl) pe_str (by rfl) (by first | exact .inl rfl | exact .inr rfl | assumption))) pss_nil) (@pss_cons _ _ _ _ _ (@ps_if _ _ _ _ _ _ _ _ (@pt_cmpR _ _ _ _ _ _ _ _ op_ne (@pe_cal _ _ _ _ _ _ _ _ _ _ _ C__law_told hr (by omega) rfl (@pa_cons _ _ _ _ _ pe_int (@pa_cons _ _ _ _ _ (@pv _ 0 _ _ (by rfl) (by first | exact Or.inl rfl | exact Or.inr ( Or.inl rfl ) | exact Or.inr ( Or.inr rfl )) (by decide) (by decide)) (@pa_cons _ _ _ _ _ (@pv _ 1 _ _ (by rfl) (by first | exact Or.inl rfl | exact Or.inr ( Or.inl rfl ) | exact Or.inr ( Or.inr rfl )) (by decide) (by decide)) (@pa_cons _ _ _ _ _ pe_int pa_nil (by rfl)) (by rfl)) (by rfl)) (by rfl)) (by decide) (by rfl) (by rfl)) (@pv _ 5 _ _ (by rfl) (by first | exact Or.inl rfl | exact Or.inr ( Or.inl rfl ) | exact Or.inr ( Or.inr rfl )) (by decide) (by decide)) (nomark _)) (@pss_one _ _ _ (@ps_ret _ _ _ _ pe_bl)) pss_nil) (@pss_cons _ _ _ _ _ (@ps_if _ _ _ _ _ _ _ _ (@PW.pt _ _ _ (@pw_and _ _ _ _ _ _ _ (@pt_cmpR _ _ _ _ _ _ _ _ op_eq (@pv _ 5 _ _ (by rfl) (by first | exact Or.inl rfl | exact Or.inr ( Or.inl rfl ) | exact Or.inr ( Or.inr rfl )) (by decide) (by decide)) pe_str (nomark _)) (@pw_and1 _ _ _ _ (@pt_not _ _ _ _ (@pt_val _ _ _ (@pe_cal _ _ _ _ _ _ _ _ _ _ _ C__law_whole hr (by omega) rfl (@pa_cons _ _ _ _ _ (@pv _ 2 _ _ (by rfl) (by first | exact Or.inl rfl | exact Or.inr ( Or.inl rfl ) | exact Or.inr ( Or.inr rfl )) (by decide) (by decide)) pa_nil (by rfl)) (by decide) (by rfl) (by rfl)) (by intro _; rfl)))))) (@pss_one _ _ _ (@ps_set _ _ (5) _ _ _ _ (sc__law_right).nd rfl (Or.inl rfl) pe_str (by rfl) (by first | exact .inl rfl | exact .inr rfl | assumption))) pss_nil) (@pss_one _ _ _ (@ps_ret _ _ _ _ (@pe_and _ _ _ _ _ _ _ (@pe_cmpR _ _ _ _ _ _ _ _ op_eq (@pe_cal _ _ _ _ _ _ _ _ _ _ _ C__law_told hr (by omega) rfl (@pa_cons _ _ _ _ _ pe_int (@pa_cons _ _ _ _ _ (@pv _ 0 _ _ (by rfl) (by first | exact Or.inl rfl | exact Or.inr ( Or.inl rfl ) | exact Or.inr ( Or.inr rfl )) (by decide) (by decide)) (@pa_cons _ _ _ _ _ (@pv _ 1 _ _ (by rfl) (by first | exact Or.inl rfl | exact Or.inr ( Or.inl rfl ) | exact Or.inr ( Or.inr rfl )) (by decide) (by decide)) (@pa_cons _ _ _ _ _ (@pv _ 2 _ _ (by rfl) (by first | exact Or.inl rfl | exact Or.inr ( Or.inl rfl ) | exact Or.inr ( Or.inr rfl )) (by decide) (by decide)) pa_nil (by rfl)) (by rfl)) (by rfl)) (by rfl)) (by decide) (by rfl) (by rfl)) (@pv _ 5 _ _ (by rfl) (by first | exact Or.inl rfl | exact Or.inr ( Or.inl rfl ) | exact Or.inr ( Or.inr rfl )) (by decide) (by decide)) (nomark _)) (@pe_one _ _ _ _ _ (@pe_cmpR _ _ _ _ _ _ _ _ op_eq (@pe_callB _ _ _ _ _ _ _ _ _ (@call_repr _ hr.gd hr.units) rfl B.irepr PyProof.Rows.boot_repr (@pa_cons _ _ _ _ _ (@pe_lst _ _ _ _ (@pa_cons _ _ _ _ _ (@pv _ 0 _ _ (by rfl) (by first | exact Or.inl rfl | exact Or.inr ( Or.inl rfl ) | exact Or.inr ( Or.inr rfl )) (by decide) (by decide)) (@pa_cons _ _ _ _ _ (@pv _ 1 _ _ (by rfl) (by first | exact Or.inl rfl | exact Or.inr ( Or.inl rfl ) | exact Or.inr ( Or.inr rfl )) (by decide) (by decide)) (@pa_cons _ _ _ _ _ (@pv _ 2 _ _ (by rfl) (by first | exact Or.inl rfl | exact Or.inr ( Or.inl rfl ) | exact Or.inr ( Or.inr rfl )) (by decide) (by decide)) pa_nil (by rfl)) (by rfl)) (by rfl))) pa_nil (by rfl)) (by decide) (by decide) (by rfl) (by rfl)) (@pv _ 3 _ _ (by rfl) (by first | exact Or.inl rfl | exact Or.inr ( Or.inl rfl ) | exact Or.inr ( Or.inr rfl )) (by decide) (by decide)) (nomark _))))))))))))), ?_⟩
  obtain ⟨s1, s2, s3⟩ := pr3 pd pe pb
  have D3 : ∀ p H1, Same H H1 → H1 p = some (.lst [v, u, x]) → Dat H1 (.list [d, e, b]) (.ref p) := fun p H1 g1 e1 => by
    simp only [Dat, DatAll]
    exact ⟨p, _, rfl, e1, _, _, rfl, Dat.mono g1 d v hd, _, _, rfl, Dat.mono g1 e u he, _, _, rfl, Dat.mono g1 b x hb, rfl⟩
  refine ⟨_, rfl, _, rfl, _, rfl, (by show 3 ≤ sizeLine; decide), fun p np => ⟨_, .list [d, e, b], rfl, D3 _ _ (Same.new np _) upd_same, s1, s2, s3, ?_⟩⟩
  have g1 := Same.new np (.lst [v, u, x])
  refine ⟨_, rfl, d, v, rfl, Dat.mono g1 d v hd, hsz, fun H2 g2 => ?_⟩
  have G2 := g1.trans g2
  refine ⟨(by show 2 ≤ sizeLine; decide), fun p3 n3 => ?_⟩
  have G3 := G2.trans (Same.new n3 (.lst [.str "NoWay", .str "told"]))
  have G3' := G3
  have t0 : ∀ k, k < 2 → isWayD d = true → toldS k d (.int 0) (.int 0) = "told" := fun k hk c => by unfold toldS; rw [if_neg (fun z => by rw [c] at z; cases z), if_pos hk]
  have tF : ∀ k e' b', isWayD d = false → toldS k d e' b' = "NoWay" := fun k e' b' c => by unfold toldS; rw [if_pos c]
  cases c : isWayD d with
  | false =>
    have m0 : mnD d = 0 := by rw [mn_way] at c; have := of_decide_eq_false c; omega
    rw [m0]
    refine ⟨_, rfl, _, _, rfl, rfl, .inr ⟨false, rfl, p3, _, _, _, rfl, rfl, SqL.of upd_same, rfl, ?_⟩⟩
    refine ⟨_, rfl, 0, d, v, .int 0, _, .int 0, _, rfl, by decide, by decide, Dat.mono G3 d v hd, (by simp only [Dat]), (by simp only [Dat]), ok, fun H4 g4 => ?_⟩
    rw [tF _ _ _ c]
    refine ⟨_, rfl, rfl, _, rfl, iteNS rfl ?_⟩
    have G4 := G3.trans g4
    refine ⟨_, rfl, 1, d, v, .int 0, _, .int 0, _, rfl, by decide, by decide, Dat.mono G4 d v hd, (by simp only [Dat]), (by simp only [Dat]), ok, fun H5 g5 => ?_⟩
    rw [tF _ _ _ c]
    refine ⟨_, rfl, rfl, _, rfl, iteNS rfl ?_⟩
    have G5 := G4.trans g5
    refine ⟨_, rfl, _, _, rfl, rfl, false, rfl, iteF ?_⟩
    refine iteF ?_
    refine ⟨_, rfl, _, rfl, 2, d, v, e, u, .int 0, _, rfl, by decide, by decide, Dat.mono G5 d v hd, Dat.mono G5 e u he, (by simp only [Dat]), ok, fun H6 g6 => ?_⟩
    rw [tF _ _ _ c]
    refine ⟨_, rfl, rfl, _, rfl, iteNS rfl ?_⟩
    have G6 := G5.trans g6
    refine ⟨_, rfl, rfl, false, rfl, iteF (iteF ?_)⟩
    refine ⟨_, rfl, _, rfl, _, rfl, 3, d, v, e, u, b, x, rfl, by decide, by decide, Dat.mono G6 d v hd, Dat.mono G6 e u he, Dat.mono G6 b x hb, ok, fun H7 g7 => ?_⟩
    rw [tF _ _ _ c]
    have G7 := G6.trans g7
    refine ⟨_, rfl, rfl, true, congrArg V.bl (decide_eq_true rfl), iteT ?_⟩
    refine ⟨_, rfl, _, rfl, _, rfl, (by show 3 ≤ sizeLine; decide), fun p8 n8 => ⟨_, .list [d, e, b], rfl, D3 _ _ (G7.trans (Same.new n8 _)) upd_same, s1, s2, s3, _, rfl, rfl, ?_⟩⟩
    have z := q _ (G7.trans (Same.new n8 (.lst [v, u, x])))
    show Q (.bl (decide (V.str (PyData.list [d, e, b]).shown = V.str (PyData.list [d, e, b]).shown))) _
    rw [decide_eq_true rfl]; exact z
  | true =>
    have mp : ((mnD d : Nat) : Int) > 0 := by rw [mn_way] at c; have := of_decide_eq_true c; omega
    have tP : ∀ k b', ¬ k < 2 → plD (mnD d) e = false → toldS k d e b' = "NoPlace" := fun k b' hk c2 => by unfold toldS; rw [if_neg (fun z => by rw [c] at z; cases z), if_neg hk, if_pos c2]
    have t2 : plD (mnD d) e = true → toldS 2 d e (.int 0) = "told" := fun c2 => by unfold toldS; rw [if_neg (fun z => by rw [c] at z; cases z), if_neg (by decide), if_neg (fun z => by rw [c2] at z; cases z), if_pos rfl]
    have t3T : plD (mnD d) e = true → whD b = true → toldS 3 d e b = "told" := fun c2 c3 => by unfold toldS; rw [if_neg (fun z => by rw [c] at z; cases z), if_neg (by decide), if_neg (fun z => by rw [c2] at z; cases z), if_neg (by decide), if_neg (fun z => by rw [c3] at z; cases z)]
    have t3F : plD (mnD d) e = true → whD b = false → toldS 3 d e b = "NoNumber" := fun c2 c3 => by unfold toldS; rw [if_neg (fun z => by rw [c] at z; cases z), if_neg (by decide), if_neg (fun z => by rw [c2] at z; cases z), if_neg (by decide), if_pos c3]
    refine ⟨_, rfl, _, _, rfl, rfl, .inr ⟨true, congrArg (fun b => [V.bl b]) (decide_eq_true mp), p3, _, _, _, rfl, rfl, SqL.of upd_same, rfl, ?_⟩⟩
    refine ⟨_, rfl, 0, d, v, .int 0, _, .int 0, _, rfl, by decide, by decide, Dat.mono G3 d v hd, (by simp only [Dat]), (by simp only [Dat]), ok, fun H4 g4 => ?_⟩
    rw [t0 _ (by decide) c]
    refine ⟨_, rfl, rfl, _, rfl, iteNS rfl ?_⟩
    have G4 := G3.trans g4
    refine ⟨_, rfl, 1, d, v, .int 0, _, .int 0, _, rfl, by decide, by decide, Dat.mono G4 d v hd, (by simp only [Dat]), (by simp only [Dat]), ok, fun H5 g5 => ?_⟩
    rw [t0 _ (by decide) c]
    refine ⟨_, rfl, rfl, _, rfl, iteNS rfl ?_⟩
    have G5 := G4.trans g5
    refine ⟨_, rfl, _, _, rfl, rfl, true, congrArg V.bl (decide_eq_true mp), iteT ?_⟩
    cases c1 : whD e with
    | false =>
      have c2 : plD (mnD d) e = false := by cases e <;> first | rfl | exact absurd c1 (by simp [whD])
      refine ⟨_, rfl, e, u, rfl, Dat.mono G5 e u he, false, congrArg V.bl c1, iteF (iteT ?_)⟩
      refine ⟨_, rfl, _, rfl, 2, d, v, e, u, .int 0, _, rfl, by decide, by decide, Dat.mono G5 d v hd, Dat.mono G5 e u he, (by simp only [Dat]), ok, fun H6 g6 => ?_⟩
      rw [tP _ _ (by decide) c2]
      refine ⟨_, rfl, rfl, _, rfl, iteNS rfl ?_⟩
      have G6 := G5.trans g6
      refine ⟨_, rfl, rfl, false, rfl, iteF (iteF ?_)⟩
      refine ⟨_, rfl, _, rfl, _, rfl, 3, d, v, e, u, b, x, rfl, by decide, by decide, Dat.mono G6 d v hd, Dat.mono G6 e u he, Dat.mono G6 b x hb, ok, fun H7 g7 => ?_⟩
      rw [tP _ _ (by decide) c2]
      have G7 := G6.trans g7
      refine ⟨_, rfl, rfl, true, congrArg V.bl (decide_eq_true rfl), iteT ?_⟩
      refine ⟨_, rfl, _, rfl, _, rfl, (by show 3 ≤ sizeLine; decide), fun p8 n8 => ⟨_, .list [d, e, b], rfl, D3 _ _ (G7.trans (Same.new n8 _)) upd_same, s1, s2, s3, _, rfl, rfl, ?_⟩⟩
      have z := q _ (G7.trans (Same.new n8 (.lst [v, u, x])))
      show Q (.bl (decide (V.str (PyData.list [d, e, b]).shown = V.str (PyData.list [d, e, b]).shown))) _
      rw [decide_eq_true rfl]; exact z
    | true =>
      obtain ⟨pl, rfl⟩ : ∃ pl, e = .int pl := by cases e <;> first | exact ⟨_, rfl⟩ | exact absurd c1 (by simp [whD])
      have eu : u = .int pl := by simpa only [Dat] using he
      subst eu
      refine ⟨_, rfl, .int pl, _, rfl, Dat.mono G5 (.int pl) _ he, true, rfl, iteT ?_⟩
      by_cases h0 : 0 ≤ pl
      · by_cases h1 : pl < ((mnD d : Nat) : Int)
        · have c2 : plD (mnD d) (.int pl) = true := by simp [plD, h0, h1]
          refine ⟨_, rfl, _, _, rfl, rfl, true, congrArg V.bl (decide_eq_true h0), iteT ⟨_, rfl, _, _, rfl, rfl, true, congrArg V.bl (decide_eq_true h1), iteF ?_⟩⟩
          cases c4 : whD b with
          | true =>
            refine ⟨_, rfl, _, rfl, 2, d, v, .int pl, _, .int 0, _, rfl, by decide, by decide, Dat.mono G5 d v hd, Dat.mono G5 (.int pl) _ he, (by simp only [Dat]), ok, fun H6 g6 => ?_⟩
            rw [t2 c2]
            refine ⟨_, rfl, rfl, _, rfl, iteNS rfl ?_⟩
            have G6 := G5.trans g6
            refine ⟨_, rfl, rfl, true, rfl, iteT ⟨_, rfl, b, x, rfl, Dat.mono G6 b x hb, true, congrArg V.bl c4, iteF ?_⟩⟩
            refine ⟨_, rfl, _, rfl, _, rfl, 3, d, v, .int pl, _, b, x, rfl, by decide, by decide, Dat.mono G6 d v hd, Dat.mono G6 (.int pl) _ he, Dat.mono G6 b x hb, ok, fun H7 g7 => ?_⟩
            rw [t3T c2 c4]
            have G7 := G6.trans g7
            refine ⟨_, rfl, rfl, true, congrArg V.bl (decide_eq_true rfl), iteT ?_⟩
            refine ⟨_, rfl, _, rfl, _, rfl, (by show 3 ≤ sizeLine; decide), fun p8 n8 => ⟨_, .list [d, .int pl, b], rfl, D3 _ _ (G7.trans (Same.new n8 _)) upd_same, s1, s2, s3, _, rfl, rfl, ?_⟩⟩
            have z := q _ (G7.trans (Same.new n8 (.lst [v, .int pl, x])))
            show Q (.bl (decide (V.str (PyData.list [d, .int pl, b]).shown = V.str (PyData.list [d, .int pl, b]).shown))) _
            rw [decide_eq_true rfl]; exact z
          | false =>
            refine ⟨_, rfl, _, rfl, 2, d, v, .int pl, _, .int 0, _, rfl, by decide, by decide, Dat.mono G5 d v hd, Dat.mono G5 (.int pl) _ he, (by simp only [Dat]), ok, fun H6 g6 => ?_⟩
            rw [t2 c2]
            refine ⟨_, rfl, rfl, _, rfl, iteNS rfl ?_⟩
            have G6 := G5.trans g6
            refine ⟨_, rfl, rfl, true, rfl, iteT ⟨_, rfl, b, x, rfl, Dat.mono G6 b x hb, false, congrArg V.bl c4, iteT ?_⟩⟩
            refine ⟨_, rfl, _, rfl, _, rfl, 3, d, v, .int pl, _, b, x, rfl, by decide, by decide, Dat.mono G6 d v hd, Dat.mono G6 (.int pl) _ he, Dat.mono G6 b x hb, ok, fun H7 g7 => ?_⟩
            rw [t3F c2 c4]
            have G7 := G6.trans g7
            refine ⟨_, rfl, rfl, true, congrArg V.bl (decide_eq_true rfl), iteT ?_⟩
            refine ⟨_, rfl, _, rfl, _, rfl, (by show 3 ≤ sizeLine; decide), fun p8 n8 => ⟨_, .list [d, .int pl, b], rfl, D3 _ _ (G7.trans (Same.new n8 _)) upd_same, s1, s2, s3, _, rfl, rfl, ?_⟩⟩
            have z := q _ (G7.trans (Same.new n8 (.lst [v, .int pl, x])))
            show Q (.bl (decide (V.str (PyData.list [d, .int pl, b]).shown = V.str (PyData.list [d, .int pl, b]).shown))) _
            rw [decide_eq_true rfl]; exact z
        · have c2 : plD (mnD d) (.int pl) = false := by simp [plD, h0, h1]
          refine ⟨_, rfl, _, _, rfl, rfl, true, congrArg V.bl (decide_eq_true h0), iteT ⟨_, rfl, _, _, rfl, rfl, false, congrArg V.bl (decide_eq_false h1), iteT ?_⟩⟩
          refine ⟨_, rfl, _, rfl, 2, d, v, .int pl, _, .int 0, _, rfl, by decide, by decide, Dat.mono G5 d v hd, Dat.mono G5 (.int pl) _ he, (by simp only [Dat]), ok, fun H6 g6 => ?_⟩
          rw [tP _ _ (by decide) c2]
          refine ⟨_, rfl, rfl, _, rfl, iteNS rfl ?_⟩
          have G6 := G5.trans g6
          refine ⟨_, rfl, rfl, false, rfl, iteF (iteF ?_)⟩
          refine ⟨_, rfl, _, rfl, _, rfl, 3, d, v, .int pl, _, b, x, rfl, by decide, by decide, Dat.mono G6 d v hd, Dat.mono G6 (.int pl) _ he, Dat.mono G6 b x hb, ok, fun H7 g7 => ?_⟩
          rw [tP _ _ (by decide) c2]
          have G7 := G6.trans g7
          refine ⟨_, rfl, rfl, true, congrArg V.bl (decide_eq_true rfl), iteT ?_⟩
          refine ⟨_, rfl, _, rfl, _, rfl, (by show 3 ≤ sizeLine; decide), fun p8 n8 => ⟨_, .list [d, .int pl, b], rfl, D3 _ _ (G7.trans (Same.new n8 _)) upd_same, s1, s2, s3, _, rfl, rfl, ?_⟩⟩
          have z := q _ (G7.trans (Same.new n8 (.lst [v, .int pl, x])))
          show Q (.bl (decide (V.str (PyData.list [d, .int pl, b]).shown = V.str (PyData.list [d, .int pl, b]).shown))) _
          rw [decide_eq_true rfl]; exact z
      · have c2 : plD (mnD d) (.int pl) = false := by simp [plD, h0]
        refine ⟨_, rfl, _, _, rfl, rfl, false, congrArg V.bl (decide_eq_false h0), iteF ⟨false, rfl, iteT ?_⟩⟩
        refine ⟨_, rfl, _, rfl, 2, d, v, .int pl, _, .int 0, _, rfl, by decide, by decide, Dat.mono G5 d v hd, Dat.mono G5 (.int pl) _ he, (by simp only [Dat]), ok, fun H6 g6 => ?_⟩
        rw [tP _ _ (by decide) c2]
        refine ⟨_, rfl, rfl, _, rfl, iteNS rfl ?_⟩
        have G6 := G5.trans g6
        refine ⟨_, rfl, rfl, false, rfl, iteF (iteF ?_)⟩
        refine ⟨_, rfl, _, rfl, _, rfl, 3, d, v, .int pl, _, b, x, rfl, by decide, by decide, Dat.mono G6 d v hd, Dat.mono G6 (.int pl) _ he, Dat.mono G6 b x hb, ok, fun H7 g7 => ?_⟩
        rw [tP _ _ (by decide) c2]
        have G7 := G6.trans g7
        refine ⟨_, rfl, rfl, true, congrArg V.bl (decide_eq_true rfl), iteT ?_⟩
        refine ⟨_, rfl, _, rfl, _, rfl, (by show 3 ≤ sizeLine; decide), fun p8 n8 => ⟨_, .list [d, .int pl, b], rfl, D3 _ _ (G7.trans (Same.new n8 _)) upd_same, s1, s2, s3, _, rfl, rfl, ?_⟩⟩
        have z := q _ (G7.trans (Same.new n8 (.lst [v, .int pl, x])))
        show Q (.bl (decide (V.str (PyData.list [d, .int pl, b]).shown = V.str (PyData.list [d, .int pl, b]).shown))) _
        rw [decide_eq_true rfl]; exact z
end
end Put

set_option Elab.async false
set_option linter.all false
set_option maxRecDepth 100000
set_option maxHeartbeats 4000000
namespace Put
open PySem L2
theorem cut_some (ns : List Int) (lo hi : Option Int) : ∃ ms : List Int, cutV (ns.map V.int) lo hi = ms.map V.int ∧ ms.length ≤ ns.length := by
  refine ⟨(ns.drop (HT.sIx ns.length 0 lo)).take (HT.sIx ns.length ns.length hi - HT.sIx ns.length 0 lo), ?_, ?_⟩
  · unfold cutV
    rw [List.length_map, List.map_take, List.map_drop]
  · rw [List.length_take, List.length_drop]; omega
theorem But.same {H H1 H2 : Hp} {wl : Addr} (s : Same H H1) (n : H wl = none) (b : But wl H1 H2) : Same H H2 := fun c o h => b c o (ne_of_none h n) (s c o h)
theorem pr_int {i : Int} (h : i.natAbs < 10 ^ 40) : PrD (.int i) := by
  refine ⟨?_, by simp [PyData.depth], ?_⟩
  · have z : (10 : Nat) ^ 40 < 2 ^ 140 := by decide
    have : i.natAbs.log2 < 140 := by
      by_cases c : i.natAbs = 0
      · rw [c]; decide
      · exact (Nat.log2_lt c).mpr (by omega)
    simp only [PyData.showable]; exact decide_eq_true (by omega)
  · have e := int_text_length_le10 (a := i) (k := 40) (by decide) h
    show (Str.ofString (toString i)).length ≤ 100000
    rw [ofString_length]; omega
/-- a thing that can be shown; one that may be a way -/
def Gp (H : Hp) (u : V) : Prop := ∃ e, Dat H e u ∧ PrD e
def Gw (H : Hp) (v : V) : Prop := ∃ d, Dat H d v ∧ OkD d ∧ szD d ≤ 900 ∧ PrD d
theorem Gw.gp {H : Hp} {v : V} (h : Gw H v) : Gp H v := by obtain ⟨d, a, _, _, b⟩ := h; exact ⟨d, a, b⟩
theorem Gp.mono {H H' : Hp} (g : Same H H') {u : V} (h : Gp H u) : Gp H' u := by obtain ⟨e, a, b⟩ := h; exact ⟨e, Dat.mono g e u a, b⟩
theorem Gw.mono {H H' : Hp} (g : Same H H') {u : V} (h : Gw H u) : Gw H' u := by obtain ⟨e, a, b⟩ := h; exact ⟨e, Dat.mono g e u a, b⟩
theorem gw_ok {H : Hp} {d : PyData} {u : V} (hd : Dat H d u) (ok : OkD d) (hs : szD d ≤ 900) (hp : d.depth ≤ 50) : Gw H u := ⟨d, hd, ok, hs, pr_ok ok hs hp⟩
def GpA (H : Hp) (xs : List V) : Prop := ∀ u ∈ xs, Gp H u
def GwA (H : Hp) (xs : List V) : Prop := ∀ u ∈ xs, Gw H u
theorem GpA.nil {H : Hp} : GpA H [] := fun _ h => nomatch h
theorem GpA.cons {H : Hp} {v : V} {us : List V} (h : Gp H v) (k : GpA H us) : GpA H (v :: us) := fun x hx => by
  rcases List.mem_cons.mp hx with e | e
  · rw [e]; exact h
  · exact k x e
theorem GwA.nil {H : Hp} : GwA H [] := fun _ h => nomatch h
theorem GwA.cons {H : Hp} {v : V} {us : List V} (h : Gw H v) (k : GwA H us) : GwA H (v :: us) := fun x hx => by
  rcases List.mem_cons.mp hx with e | e
  · rw [e]; exact h
  · exact k x e
theorem GwA.mono {H H' : Hp} (g : Same H H') {us : List V} (h : GwA H us) : GwA H' us := fun u hu => (h u hu).mono g
theorem pick {xs : List V} {r : Int} (h0 : 0 ≤ r) (h1 : r < xs.length) : ∃ u, atI xs r = some u ∧ u ∈ xs := by
  obtain ⟨j, rfl⟩ : ∃ j : Nat, r = (j : Int) := ⟨r.toNat, by omega⟩
  have hj : j < xs.length := by omega
  exact ⟨xs[j], atI_nat (List.getElem?_eq_getElem hj), List.getElem_mem hj⟩
theorem gp_int {H : Hp} (i : Int) (h : i.natAbs < 10 ^ 40) : Gp H (.int i) := ⟨.int i, by simp only [Dat], pr_int h⟩
theorem gp_bl {H : Hp} (b : Bool) : Gp H (.bl b) := (gw_ok (d := .bool b) (by simp only [Dat]) (by simp only [OkD]) (by simp [szD]) (by simp [PyData.depth])).gp
theorem gp_non {H : Hp} : Gp H .non := (gw_ok (d := .none) (by simp only [Dat]) (by simp only [OkD]) (by simp [szD]) (by simp [PyData.depth])).gp
theorem gp_str {H : Hp} (x : Str) (h : (reprText x).length ≤ 20) : Gp H (.str x) := (gw_ok (d := .str x) (by simp only [Dat]) (by simp only [OkD]; exact h) (by simp [szD]) (by simp [PyData.depth])).gp
theorem gw_int {H : Hp} (i : Int) (h : i.natAbs < 10 ^ 13) : Gw H (.int i) := gw_ok (d := .int i) (by simp only [Dat]) (by simp only [OkD]; exact h) (by simp [szD]) (by simp [PyData.depth])
section
variable {P : Program} {w : World} {K : PySem.W.Frag} {mg : Str → Option Value} {base : Heap} {f : Addr} {fd : FuncData}
theorem gw_wy {H : Hp} {wl : Addr} {M : Int} {wy : Wy} {v : V} (hw : Wel H wl M) (h : WyIn H wy v) (sm : wy.Sm) (sz : wy.size ≤ 20) : Gw (off wl H) v := by
  have a := wy_sz wy; have b := wy_depth wy; have c := wy.deep_le
  exact gw_ok (WyIn.off hw h) (wy_ok wy sm) (by omega) (by omega)
def spLaw (K : PySem.W.Frag) : Sp := fun vs H Q _ => ∃ (a : Addr) (ns : List Int), vs = [.ref a] ∧ SqL K H a (ns.map V.int) ∧ ns.length ≤ 63 ∧ ∀ H', Q (.bl true) H'
abbrev s_law : Stmt := top 48
theorem sc_law : FnScope ["script", "cell", "well", "row", "way", "turn", "ways", "places", "place", "numbers", "number"] ["script"] (defScope s_law) := ⟨rfl, rfl, rfl, by decide +kernel, rfl, by decide +kernel, by decide +kernel⟩
theorem ok_law (F : Fun K "law" "law" s_law f fd) (B : Bu K mg) (C__law_well : Cal P w K mg base "_law_well" 1 ["cell"] spWell) (C__law_draw : Cal P w K mg base "_law_draw" 2 ["well", "many"] spDraw) (C__law_row : Cal P w K mg base "_law_row" 4 ["well", "many"] spRow)
    (C__law_signs : Cal P w K mg base "_law_signs" 3 ["well"] spLawSigns) (C__law_way : Cal P w K mg base "_law_way" 22 ["well", "row", "signs"] (spWay 20)) (C__law_odd : Cal P w K mg base "_law_odd" 3 ["well"] spOdd) (C__law_bad_way : Cal P w K mg base "_law_bad_way" 13 ["well", "way"] (spBad 10)) (C__law_right : Cal P w K mg base "_law_right" 45 ["way", "place", "number"] spRight1) : FnOk P w K mg base CX0 46 f fd ["script"] (spLaw K) := by
  refine F.ok sc_law (fun vs H Q E h => ?_) (fun cdv A outer s H vs Q E hr h => ?_)
  · obtain ⟨a, ns, rfl, _⟩ := h
    rfl
  obtain ⟨a, ns, rfl, hS, h63, q⟩ := h
  refine ⟨_, (@pss_cons _ _ _ _ _ (@ps_for _ _ _ _ _ _ _ _ PassesOwn.never rfl (@pi_list _ _ _ _ (@pe_op _ _ _ _ _ _ _ _ op_cat (@pe_lst _ _ _ _ (@pa_cons _ _ _ _ _ pe_int pa_nil (by rfl))) (@pe_slice _ _ _ _ _ _ _ _ _ _ sl_list (@pv _ 0 _ _ (by rfl) (by first | exact Or.inl rfl | exact Or.inr ( Or.inl rfl ) | exact Or.inr ( Or.inr rfl )) (by decide) (by decide)) po_none (@po_some _ _ _ pe_int)))) (@pg_name _ _ (1) _ (sc_law).nd rfl (Or.inl rfl) (by first | exact .inl rfl | exact .inr rfl | assumption)) (@pss_cons _ _ _ _ _ (@ps_set _ _ (2) _ _ _ _ (sc_law).nd rfl (Or.inl rfl) (@pe_cal _ _ _ _ _ _ _ _ _ _ _ C__law_well hr (by omega) rfl (@pa_cons _ _ _ _ _ (@pv _ 1 _ _ (by rfl) (by first | exact Or.inl rfl | exact Or.inr ( Or.inl rfl ) | exact Or.inr ( Or.inr rfl )) (by decide) (by decide)) pa_nil (by rfl)) (by decide) (by rfl) (by rfl)) (by rfl) (by first | exact .inl rfl | exact .inr rfl | assumption)) (@pss_cons _ _ _ _ _ (@ps_set _ _ (3) _ _ _ _ (sc_law).nd rfl (Or.inl rfl) (@pe_cal _ _ _ _ _ _ _ _ _ _ _ C__law_row hr (by omega) rfl (@pa_cons _ _ _ _ _ (@pv _ 2 _ _ (by rfl) (by first | exact Or.inl rfl | exact Or.inr ( Or.inl rfl ) | exact Or.inr ( Or.inr rfl )) (by decide) (by decide)) (@pa_cons _ _ _ _ _ (@pe_op _ _ _ _ _ _ _ _ op_add pe_int (@pe_cal _ _ _ _ _ _ _ _ _ _ _ C__law_draw hr (by omega) rfl (@pa_cons _ _ _ _ _ (@pv _ 2 _ _ (by rfl) (by first | exact Or.inl rfl | exact Or.inr ( Or.inl rfl ) | exact Or.inr ( Or.inr rfl )) (by decide) (by decide)) (@pa_cons _ _ _ _ _ pe_int pa_nil (by rfl)) (by rfl)) (by decide) (by rfl) (by rfl))) pa_nil (by rfl)) (by rfl)) (by decide) (by rfl) (by rfl)) (by rfl) (by first | exact .inl rfl | exact .inr rfl | assumption)) (@pss_cons _ _ _ _ _ (@ps_set _ _ (4) _ _ _ _ (sc_law).nd rfl (Or.inl rfl) (@pe_cal _ _ _ _ _ _ _ _ _ _ _ C__law_way hr (by omega) rfl (@pa_cons _ _ _ _ _ (@pv _ 2 _ _ (by rfl) (by first | exact Or.inl rfl | exact Or.inr ( Or.inl rfl ) | exact Or.inr ( Or.inr rfl )) (by decide) (by decide)) (@pa_cons _ _ _ _ _ (@pv _ 3 _ _ (by rfl) (by first | exact Or.inl rfl | exact Or.inr ( Or.inl rfl ) | exact Or.inr ( Or.inr rfl )) (by decide) (by decide)) (@pa_cons _ _ _ _ _ (@pe_cal _ _ _ _ _ _ _ _ _ _ _ C__law_signs hr (by omega) rfl (@pa_cons _ _ _ _ _ (@pv _ 2 _ _ (by rfl) (by first | exact Or.inl rfl | exact Or.inr ( Or.inl rfl ) | exact Or.inr ( Or.inr rfl )) (by decide) (by decide)) pa_nil (by rfl)) (by decide) (by rfl) (by rfl)) pa_nil (by rfl)) (by rfl)) (by rfl)) (by decide) (by rfl) (by rfl)) (by rfl) (by first | exact .inl rfl | exact .inr rfl | assumption)) (@pss_one _ _ _ (@ps_for _ _ _ _ _ _ _ _ PassesOwn.never rfl (@pi_range1 _ _ _ _ _ _ rfl B.irange (@pa_cons _ _ _ _ _ pe_int pa_nil (by rfl)) (by rfl)) (@pg_name _ _ (5) _ (sc_law).nd rfl (Or.inl rfl) (by first | exact .inl rfl | exact .inr rfl | assumption)) (@pss_cons _ _ _ _ _ (@ps_set _ _ (6) _ _ _ _ (sc_law).nd rfl (Or.inl rfl) (@pe_lst _ _ _ _ (@pa_cons _ _ _ _ _ (@pv _ 4 _ _ (by rfl) (by first | exact Or.inl rfl | exact Or.inr ( Or.inl rfl ) | exact Or.inr ( Or.inr rfl )) (by decide) (by decide)) (@pa_cons _ _ _ _ _ (@pv _ 4 _ _ (by rfl) (by first | exact Or.inl rfl | exact Or.inr ( Or.inl rfl ) | exact Or.inr ( Or.inr rfl )) (by decide) (by decide)) (@pa_cons _ _ _ _ _ (@pe_cal _ _ _ _ _ _ _ _ _ _ _ C__law_bad_way hr (by omega) rfl (@pa_cons _ _ _ _ _ (@pv _ 2 _ _ (by rfl) (by first | exact Or.inl rfl | exact Or.inr ( Or.inl rfl ) | exact Or.inr ( Or.inr rfl )) (by decide) (by decide)) (@pa_cons _ _ _ _ _ (@pv _ 4 _ _ (by rfl) (by first | exact Or.inl rfl | exact Or.inr ( Or.inl rfl ) | exact Or.inr ( Or.inr rfl )) (by decide) (by decide)) pa_nil (by rfl)) (by rfl)) (by decide) (by rfl) (by rfl)) (@pa_cons _ _ _ _ _ (@pe_cal _ _ _ _ _ _ _ _ _ _ _ C__law_way hr (by omega) rfl (@pa_cons _ _ _ _ _ (@pv _ 2 _ _ (by rfl) (by first | exact Or.inl rfl | exact Or.inr ( Or.inl rfl ) | exact Or.inr ( Or.inr rfl )) (by decide) (by decide)) (@pa_cons _ _ _ _ _ (@pe_op _ _ _ _ _ _ _ _ op_cat (@pv _ 3 _ _ (by rfl) (by first | exact Or.inl rfl | exact Or.inr ( Or.inl rfl ) | exact Or.inr ( Or.inr rfl )) (by decide) (by decide)) (@pe_op _ _ _ _ _ _ _ _ op_rep (@pe_lst _ _ _ _ (@pa_cons _ _ _ _ _ pe_int pa_nil (by rfl))) pe_int)) (@pa_cons _ _ _ _ _ pe_str pa_nil (by rfl)) (by rfl)) (by rfl)) (by decide) (by rfl) (by rfl)) (@pa_cons _ _ _ _ _ (@pe_cal _ _ _ _ _ _ _ _ _ _ _ C__law_odd hr (by omega) rfl (@pa_cons _ _ _ _ _ (@pv _ 2 _ _ (by rfl) (by first | exact Or.inl rfl | exact Or.inr ( Or.inl rfl ) | exact Or.inr ( Or.inr rfl )) (by decide) (by decide)) pa_nil (by rfl)) (by decide) (by rfl) (by rfl)) pa_nil (by rfl)) (by rfl)) (by rfl)) (by rfl)) (by rfl))) (by rfl) (by first | exact .inl rfl | exact .inr rfl | assumption)) (@pss_cons _ _ _ _ _ (@ps_set _ _ (7) _ _ _ _ (sc_law).nd rfl (Or.inl rfl) (@pe_lst _ _ _ _ (@pa_cons _ _ _ _ _ pe_int (@pa_cons _ _ _ _ _ (@pe_op _ _ _ _ _ _ _ _ op_sub (@pe_callB _ _ _ _ _ _ _ _ _ call_len_seq rfl B.ilen PySem.boot_len (@pa_cons _ _ _ _ _ (@pv _ 3 _ _ (by rfl) (by first | exact Or.inl rfl | exact Or.inr ( Or.inl rfl ) | exact Or.inr ( Or.inr rfl )) (by decide) (by decide)) pa_nil (by rfl)) (by decide) (by decide) (by rfl) (by rfl)) pe_int) (@pa_cons _ _ _ _ _ (@pe_callB _ _ _ _ _ _ _ _ _ call_len_seq rfl B.ilen PySem.boot_len (@pa_cons _ _ _ _ _ (@pv _ 3 _ _ (by rfl) (by first | exact Or.inl rfl | exact Or.inr ( Or.inl rfl ) | exact Or.inr ( Or.inr rfl )) (by decide) (by decide)) pa_nil (by rfl)) (by decide) (by decide) (by rfl) (by rfl)) (@pa_cons _ _ _ _ _ (@pe_un _ _ _ _ _ _ un_neg pe_int) (@pa_cons _ _ _ _ _ pe_bl (@pa_cons _ _ _ _ _ pe_bl (@pa_cons _ _ _ _ _ pe_non (@pa_cons _ _ _ _ _ pe_str (@pa_cons _ _ _ _ _ (@pe_lst _ _ _ _ (@pa_cons _ _ _ _ _ pe_int pa_nil (by rfl))) (@pa_cons _ _ _ _ _ (@pe_op _ _ _ _ _ _ _ _ op_pow pe_int pe_int) (@pa_cons _ _ _ _ _ (@pe_un _ _ _ _ _ _ un_neg (@pe_op _ _ _ _ _ _ _ _ op_pow pe_int pe_int)) (@pa_cons _ _ _ _ _ (@pe_tup _ _ _ _ _ (@pa_cons _ _ _ _ _ pe_int pa_nil (by rfl))) (@pa_cons _ _ _ _ _ pe_dnewK pa_nil (by rfl)) (by rfl)) (by rfl)) (by rfl)) (by rfl)) (by rfl)) (by rfl)) (by rfl)) (by rfl)) (by rfl)) (by rfl)) (by rfl)) (by rfl))) (by rfl) (by first | exact .inl rfl | exact .inr rfl | assumption)) (@pss_cons _ _ _ _ _ (@ps_set _ _ (8) _ _ _ _ (sc_law).nd rfl (Or.inl rfl) (@pe_ix _ _ _ _ _ _ _ ix_list (@pv _ 7 _ _ (by rfl) (by first | exact Or.inl rfl | exact Or.inr ( Or.inl rfl ) | exact Or.inr ( Or.inr rfl )) (by decide) (by decide)) (@pe_cal _ _ _ _ _ _ _ _ _ _ _ C__law_draw hr (by omega) rfl (@pa_cons _ _ _ _ _ (@pv _ 2 _ _ (by rfl) (by first | exact Or.inl rfl | exact Or.inr ( Or.inl rfl ) | exact Or.inr ( Or.inr rfl )) (by decide) (by decide)) (@pa_cons _ _ _ _ _ pe_int pa_nil (by rfl)) (by rfl)) (by decide) (by rfl) (by rfl)) (fun _ _ => rfl)) (by rfl) (by first | exact .inl rfl | exact .inr rfl | assumption)) (@pss_cons _ _ _ _ _ (@ps_set _ _ (9) _ _ _ _ (sc_law).nd rfl (Or.inl rfl) (@pe_lst _ _ _ _ (@pa_cons _ _ _ _ _ pe_int (@pa_cons _ _ _ _ _ pe_int (@pa_cons _ _ _ _ _ (@pe_un _ _ _ _ _ _ un_neg pe_int) (@pa_cons _ _ _ _ _ (@pe_op _ _ _ _ _ _ _ _ op_pow pe_int pe_int) (@pa_cons _ _ _ _ _ pe_bl (@pa_cons _ _ _ _ _ pe_bl (@pa_cons _ _ _ _ _ pe_non (@pa_cons _ _ _ _ _ pe_str (@pa_cons _ _ _ _ _ pe_str (@pa_cons _ _ _ _ _ (@pe_lst _ _ _ _ (@pa_cons _ _ _ _ _ pe_int pa_nil (by rfl))) (@pa_cons _ _ _ _ _ (@pe_tup _ _ _ _ _ pa_nil) (@pa_cons _ _ _ _ _ pe_dnewK (@pa_cons _ _ _ _ _ (@pe_tup _ _ _ _ _ (@pa_cons _ _ _ _ _ pe_str (@pa_cons _ _ _ _ _ pe_int (@pa_cons _ _ _ _ _ pe_int pa_nil (by rfl)) (by rfl)) (by rfl))) (@pa_cons _ _ _ _ _ (@pe_tup _ _ _ _ _ (@pa_cons _ _ _ _ _ pe_str (@pa_cons _ _ _ _ _ pe_int (@pa_cons _ _ _ _ _ (@pe_tup _ _ _ _ _ (@pa_cons _ _ _ _ _ pe_str (@pa_cons _ _ _ _ _ pe_int (@pa_cons _ _ _ _ _ pe_int pa_nil (by rfl)) (by rfl)) (by rfl))) pa_nil (by rfl)) (by rfl)) (by rfl))) pa_nil (by rfl)) (by rfl)) (by rfl)) (by rfl)) (by rfl)) (by rfl)) (by rfl)) (by rfl)) (by rfl)) (by rfl)) (by rfl)) (by rfl)) (by rfl)) (by rfl))) (by rfl) (by first | exact .inl rfl | exact .inr rfl | assumption)) (@pss_cons _ _ _ _ _ (@ps_set _ _ (10) _ _ _ _ (sc_law).nd rfl (Or.inl rfl) (@pe_ix _ _ _ _ _ _ _ ix_list (@pe_op _ _ _ _ _ _ _ _ op_cat (@pv _ 9 _ _ (by rfl) (by first | exact Or.inl rfl | exact Or.inr ( Or.inl rfl ) | exact Or.inr ( Or.inr rfl )) (by decide) (by decide)) (@pe_lst _ _ _ _ (@pa_cons _ _ _ _ _ (@pv _ 4 _ _ (by rfl) (by first | exact Or.inl rfl | exact Or.inr ( Or.inl rfl ) | exact Or.inr ( Or.inr rfl )) (by decide) (by decide)) pa_nil (by rfl)))) (@pe_cal _ _ _ _ _ _ _ _ _ _ _ C__law_draw hr (by omega) rfl (@pa_cons _ _ _ _ _ (@pv _ 2 _ _ (by rfl) (by first | exact Or.inl rfl | exact Or.inr ( Or.inl rfl ) | exact Or.inr ( Or.inr rfl )) (by decide) (by decide)) (@pa_cons _ _ _ _ _ pe_int pa_nil (by rfl)) (by rfl)) (by decide) (by rfl) (by rfl)) (fun _ _ => rfl)) (by rfl) (by first | exact .inl rfl | exact .inr rfl | assumption)) (@pss_cons _ _ _ _ _ (@ps_if _ _ _ _ _ _ _ _ (@PW.pt _ _ _ (@pw_or _ _ _ _ _ _ _ (@pt_not _ _ _ _ (@pt_val _ _ _ (@pe_cal _ _ _ _ _ _ _ _ _ _ _ C__law_right hr (by omega) rfl (@pa_cons _ _ _ _ _ (@pe_ix _ _ _ _ _ _ _ ix_list (@pv _ 6 _ _ (by rfl) (by first | exact Or.inl rfl | exact Or.inr ( Or.inl rfl ) | exact Or.inr ( Or.inr rfl )) (by decide) (by decide)) (@pe_cal _ _ _ _ _ _ _ _ _ _ _ C__law_draw hr (by omega) rfl (@pa_cons _ _ _ _ _ (@pv _ 2 _ _ (by rfl) (by first | exact Or.inl rfl | exact Or.inr ( Or.inl rfl ) | exact Or.inr ( Or.inr rfl )) (by decide) (by decide)) (@pa_cons _ _ _ _ _ pe_int pa_nil (by rfl)) (by rfl)) (by decide) (by rfl) (by rfl)) (fun _ _ => rfl)) (@pa_cons _ _ _ _ _ (@pv _ 8 _ _ (by rfl) (by first | exact Or.inl rfl | exact Or.inr ( Or.inl rfl ) | exact Or.inr ( Or.inr rfl )) (by decide) (by decide)) (@pa_cons _ _ _ _ _ (@pv _ 10 _ _ (by rfl) (by first | exact Or.inl rfl | exact Or.inr ( Or.inl rfl ) | exact Or.inr ( Or.inr rfl )) (by decide) (by decide)) pa_nil (by rfl)) (by rfl)) (by rfl)) (by decide) (by rfl) (by rfl)) (by intro _; rfl))) (@pw_or1 _ _ _ _ (@pt_not _ _ _ _ (@pt_val _ _ _ (@pe_cal _ _ _ _ _ _ _ _ _ _ _ C__law_right hr (by omega) rfl (@pa_cons _ _ _ _ _ (@pv _ 4 _ _ (by rfl) (by first | exact Or.inl rfl | exact Or.inr ( Or.inl rfl ) | exact Or.inr ( Or.inr rfl )) (by decide) (by decide)) (@pa_cons _ _ _ _ _ (@pv _ 8 _ _ (by rfl) (by first | exact Or.inl rfl | exact Or.inr ( Or.inl rfl ) | exact Or.inr ( Or.inr rfl )) (by decide) (by decide)) (@pa_cons _ _ _ _ _ (@pv _ 10 _ _ (by rfl) (by first | exact Or.inl rfl | exact Or.inr ( Or.inl rfl ) | exact Or.inr ( Or.inr rfl )) (by decide) (by decide)) pa_nil (by rfl)) (by rfl)) (by rfl)) (by decide) (by rfl) (by rfl)) (by intro _; rfl)))))) (@pss_one _ _ _ (@ps_ret _ _ _ _ pe_bl)) pss_nil) (@pss_one _ _ _ (@ps_if _ _ _ _ _ _ _ _ (@PW.pt _ _ _ (@pw_or _ _ _ _ _ _ _ (@pt_not _ _ _ _ (@pt_val _ _ _ (@pe_cal _ _ _ _ _ _ _ _ _ _ _ C__law_right hr (by omega) rfl (@pa_cons _ _ _ _ _ (@pv _ 4 _ _ (by rfl) (by first | exact Or.inl rfl | exact Or.inr ( Or.inl rfl ) | exact Or.inr ( Or.inr rfl )) (by decide) (by decide)) (@pa_cons _ _ _ _ _ pe_int (@pa_cons _ _ _ _ _ (@pv _ 10 _ _ (by rfl) (by first | exact Or.inl rfl | exact Or.inr ( Or.inl rfl ) | exact Or.inr ( Or.inr rfl )) (by decide) (by decide)) pa_nil (by rfl)) (by rfl)) (by rfl)) (by decide) (by rfl) (by rfl)) (by intro _; rfl))) (@pw_or1 _ _ _ _ (@pt_not _ _ _ _ (@pt_val _ _ _ (@pe_cal _ _ _ _ _ _ _ _ _ _ _ C__law_right hr (by omega) rfl (@pa_cons _ _ _ _ _ (@pe_cal _ _ _ _ _ _ _ _ _ _ _ C__law_bad_way hr (by omega) rfl (@pa_cons _ _ _ _ _ (@pv _ 2 _ _ (by rfl) (by first | exact Or.inl rfl | exact Or.inr ( Or.inl rfl ) | exact Or.inr ( Or.inr rfl )) (by decide) (by decide)) (@pa_cons _ _ _ _ _ (@pv _ 4 _ _ (by rfl) (by first | exact Or.inl rfl | exact Or.inr ( Or.inl rfl ) | exact Or.inr ( Or.inr rfl )) (by decide) (by decide)) pa_nil (by rfl)) (by rfl)) (by decide) (by rfl) (by rfl)) (@pa_cons _ _ _ _ _ pe_int (@pa_cons _ _ _ _ _ pe_int pa_nil (by rfl)) (by rfl)) (by rfl)) (by decide) (by rfl) (by rfl)) (by intro _; rfl)))))) (@pss_one _ _ _ (@ps_ret _ _ _ _ pe_bl)) pss_nil)))))))) (by intro _; rfl)))))) (by intro _; rfl)) (@pss_cons _ _ _ _ _ (@ps_if _ _ _ _ _ _ _ _ (@PW.pt _ _ _ (@pw_or _ _ _ _ _ _ _ (@pt_not _ _ _ _ (@pt_val _ _ _ (@pe_cal _ _ _ _ _ _ _ _ _ _ _ C__law_right hr (by omega) rfl (@pa_cons _ _ _ _ _ (@pe_tup _ _ _ _ _ (@pa_cons _ _ _ _ _ pe_str (@pa_cons _ _ _ _ _ pe_int (@pa_cons _ _ _ _ _ pe_int pa_nil (by rfl)) (by rfl)) (by rfl))) (@pa_cons _ _ _ _ _ pe_int (@pa_cons _ _ _ _ _ (@pe_tup _ _ _ _ _ (@pa_cons _ _ _ _ _ pe_str (@pa_cons _ _ _ _ _ pe_int (@pa_cons _ _ _ _ _ pe_int pa_nil (by rfl)) (by rfl)) (by rfl))) pa_nil (by rfl)) (by rfl)) (by rfl)) (by decide) (by rfl) (by rfl)) (by intro _; rfl))) (@pw_or _ _ _ _ _ _ _ (@pt_not _ _ _ _ (@pt_val _ _ _ (@pe_cal _ _ _ _ _ _ _ _ _ _ _ C__law_right hr (by omega) rfl (@pa_cons _ _ _ _ _ pe_int (@pa_cons _ _ _ _ _ pe_bl (@pa_cons _ _ _ _ _ pe_int pa_nil (by rfl)) (by rfl)) (by rfl)) (by decide) (by rfl) (by rfl)) (by intro _; rfl))) (@pw_or1 _ _ _ _ (@pt_not _ _ _ _ (@pt_val _ _ _ (@pe_cal _ _ _ _ _ _ _ _ _ _ _ C__law_right hr (by omega) rfl (@pa_cons _ _ _ _ _ pe_int (@pa_cons _ _ _ _ _ pe_int (@pa_cons _ _ _ _ _ pe_bl pa_nil (by rfl)) (by rfl)) (by rfl)) (by decide) (by rfl) (by rfl)) (by intro _; rfl))))))) (@pss_one _ _ _ (@ps_ret _ _ _ _ pe_bl)) pss_nil) (@pss_one _ _ _ (@ps_ret _ _ _ _ (@pe_and _ _ _ _ _ _ _ (@pe_cal _ _ _ _ _ _ _ _ _ _ _ C__law_right hr (by omega) rfl (@pa_cons _ _ _ _ _ pe_int (@pa_cons _ _ _ _ _ pe_int (@pa_cons _ _ _ _ _ pe_non pa_nil (by rfl)) (by rfl)) (by rfl)) (by decide) (by rfl) (by rfl)) (@pe_and _ _ _ _ _ _ _ (@pe_cal _ _ _ _ _ _ _ _ _ _ _ C__law_right hr (by omega) rfl (@pa_cons _ _ _ _ _ pe_bl (@pa_cons _ _ _ _ _ pe_int (@pa_cons _ _ _ _ _ pe_int pa_nil (by rfl)) (by rfl)) (by rfl)) (by decide) (by rfl) (by rfl)) (@pe_one _ _ _ _ _ (@pe_cal _ _ _ _ _ _ _ _ _ _ _ C__law_right hr (by omega) rfl (@pa_cons _ _ _ _ _ pe_non (@pa_cons _ _ _ _ _ pe_non (@pa_cons _ _ _ _ _ pe_non pa_nil (by rfl)) (by rfl)) (by rfl)) (by decide) (by rfl) (by rfl))))))))), ?_⟩
  refine ⟨(by show 1 ≤ sizeLine; decide), fun p1 n1 => ?_⟩
  have g1 := Same.new n1 (.lst [.int 0])
  refine ⟨_, rfl, 15, rfl, a, _, rfl, g1.seq hS, fun p2 n2 => ?_⟩
  obtain ⟨ms, em, hm⟩ := cut_some ns none (some 15)
  rw [em]
  have g2 := Same.new n2 (.lst (ms.map V.int))
  refine ⟨p1, p2, _, _, rfl, rfl, g2 _ _ upd_same, upd_same, le_line (by rw [List.length_map]; show 1 + ms.length ≤ 1000; omega), fun p3 n3 => ?_⟩
  have e3 : upd (upd (upd H p1 (.lst [.int 0])) p2 (.lst (ms.map V.int))) p3 (.lst ([.int 0] ++ ms.map V.int)) p3 = _ := upd_same
  have el : [V.int 0] ++ ms.map V.int = (0 :: ms).map V.int := rfl
  rw [el] at e3 ⊢
  revert e3
  generalize upd (upd (upd H p1 (.lst [.int 0])) p2 (.lst (ms.map V.int))) p3 (.lst ((0 :: ms).map V.int)) = H3
  intro e3
  have t3 : (3 : Nat) ≤ sizeLine := by decide
  refine ⟨p3, rfl, ⟨_, SqL.of e3⟩, for_list (xs := (0 :: ms).map V.int) (fun i σ H' => ∃ cell well row way turn ways places place numbers number, σ = [some (.ref a), cell, well, row, way, turn, ways, places, place, numbers, number] ∧ Same H3 H') ⟨_, _, _, _, _, _, _, _, _, _, rfl, Same.refl _⟩ ?_ ?_ ?_⟩
  · rintro i σ H' _ ⟨_, _, _, _, _, _, _, _, _, _, rfl, S⟩
    exact SqL.of (S _ _ e3)
  · rintro i x σ H' hx ⟨cell, well, row, way, turn, ways, places, place, numbers, number, rfl, S⟩
    rw [List.getElem?_map] at hx
    obtain ⟨c, _, rfl⟩ := Option.map_eq_some_iff.mp hx
    refine ⟨_, rfl, c, rfl, fun wl ca cb H4 g4 nw ew => ?_⟩
    have nwl : H3 wl = none := S.free nw
    have w4 : Wel H4 wl 0 := ⟨ca, cb, 0, ew, by omega, by omega⟩
    refine ⟨_, rfl, _, rfl, wl, 9, _, rfl, by decide, by decide, w4, by omega, fun r1 H6 a1 b1 k6 w6 => ⟨_, _, rfl, rfl, ?_⟩⟩
    refine ⟨wl, 1 + r1, _, rfl, by omega, by omega, w6, by omega, fun pr rs H7 k7 w7 nr er hlen hsm => ?_⟩
    have nrw : pr ≠ wl := w6.ne nr
    refine ⟨_, rfl, _, rfl, _, rfl, wl, _, rfl, w7, by omega, fun gs H5 gl1 gl3 k5 w5 => ?_⟩
    have er5 := k5 _ _ nrw er
    refine ⟨wl, pr, gs, rs, _, rfl, er5, nrw, by omega, by omega, by omega, gl1, gl3, w5, by omega, fun v wy H8 iw en wi k8 w8 => ?_⟩
    have sz : wy.size ≤ 9 := by rw [← wy.nums_len, en]; omega
    have szp : 1 ≤ wy.size := by rw [← wy.nums_len, en]; omega
    have sm := small_sm hsm en
    have er8 := k8 _ _ nrw er5
    have B8 : But wl H4 H8 := ((k6.trans k7).trans k5).trans k8
    refine ⟨4, rfl, by decide, by decide, for_range (n := 4) (fun j σ H' => ∃ turn ways places place numbers number, σ = [some (.ref a), some (.int c), some (.ref wl), some (.ref pr), some v, turn, ways, places, place, numbers, number] ∧ But wl H8 H' ∧ Wel H' wl (1000 + 300 * j)) ⟨_, _, _, _, _, _, rfl, But.refl, w8.more (by omega)⟩ ?_ ?_⟩
    · rintro j σ H9 hj ⟨turn, ways, places, place, numbers, number, rfl, b9, w9⟩
      have iw9 := iw.mono (w8.tups b9)
      have er9 := b9 _ _ nrw er8
      have dl := wy.deep_le
      -- the five ways
      refine ⟨_, rfl, _, rfl, _, rfl, _, rfl, wl, wy, v, _, rfl, iw9, by omega, by decide, sm, w9, by omega, fun d1 u1 H10 b10 w10 hd1 ok1 sz1 dp1 => ?_⟩
      have er10 := b10 _ _ nrw er9
      refine ⟨_, rfl, _, rfl, (by show 1 ≤ sizeLine; decide), fun pa na => ⟨pa, 9, [.int 2], rfl, rfl, upd_same, by decide, by decide, (by show 1 * 9 ≤ sizeLine; decide), fun pb nb => ?_⟩⟩
      have y1 := Same.new na (.lst [.int 2])
      have e9 : (List.replicate (9 : Int).toNat [V.int 2]).flatten = (List.replicate 9 (2 : Int)).map V.int := rfl
      rw [e9]
      have y2 := Same.new nb (.lst ((List.replicate 9 (2 : Int)).map V.int))
      refine ⟨pr, pb, _, _, rfl, rfl, y2 _ _ (y1 _ _ er10), upd_same, le_line (by rw [List.length_map, List.length_map, List.length_replicate]; omega), fun pc nc => ?_⟩
      rw [← List.map_append]
      have y3 := Same.new nc (.lst ((rs ++ List.replicate 9 (2 : Int)).map V.int))
      have Y3 := (y1.trans y2).trans y3
      have w11 := w10.keep Y3 (Int.le_refl _)
      have ncw : pc ≠ wl := (w10.keep (y1.trans y2) (Int.le_refl _)).ne nc
      have l18 : (rs ++ List.replicate 9 (2 : Int)).length = rs.length + 9 := by rw [List.length_append, List.length_replicate]
      have sm18 : Small (rs ++ List.replicate 9 (2 : Int)) := fun i hi => by
        rcases List.mem_append.mp hi with hi | hi
        · exact hsm i hi
        · rw [List.eq_of_mem_replicate hi]; decide
      have es : ("+*" : Str) = sgText [.plus, .times] := by decide +kernel
      refine ⟨wl, pc, [.plus, .times], rs ++ List.replicate 9 2, _, (by rw [← es]; rfl), upd_same, ncw, by omega, by omega, by decide, by decide, by decide, w11, by omega, fun v2 wy2 H12 iw2 en2 wi2 b12 w12 => ?_⟩
      have sz2 : wy2.size ≤ 18 := by rw [← wy2.nums_len, en2]; omega
      have sm2 := small_sm sm18 en2
      refine ⟨_, rfl, wl, _, rfl, w12, by omega, fun d3 u3 H13 b13 w13 hd3 ok3 sz3 dp3 => ?_⟩
      refine ⟨(by show 5 ≤ sizeLine; decide), fun pw npw => ?_⟩
      have B13 : But wl H10 H13 := ((But.of Y3).trans b12).trans b13
      have iw10 := iw9.mono (w9.tups b10)
      have iw13 := iw10.mono (w10.tups B13)
      have A13 : GwA (off wl H13) [v, v, u1, v2, u3] := by
        have h1 := gw_wy w13 iw13 sm (by omega)
        have h2 := gw_wy w13 (iw2.mono (w12.tups b13)) sm2 (by omega)
        exact GwA.cons h1 (GwA.cons h1 (GwA.cons ((gw_ok hd1 ok1 (by omega) (by omega)).mono (off_but B13)) (GwA.cons h2 (GwA.cons (gw_ok hd3 ok3 (by omega) (by omega)) GwA.nil))))
      have y4 := Same.new npw (.lst [v, v, u1, v2, u3])
      have pww := w13.ne npw
      have w14 := w13.keep y4 (Int.le_refl _)
      have A14 := A13.mono (off_but (But.of y4))
      have e14 := upd_same (H := H13) (a := pw) (o := .lst [v, v, u1, v2, u3])
      have iw14 := iw13.mono (Tups.of y4)
      have er14 := y4 _ _ (B13 _ _ nrw er10)
      have B14 : But wl H8 (upd H13 pw (.lst [v, v, u1, v2, u3])) := (b9.trans (b10.trans B13)).trans (But.of y4)
      revert w14 A14 e14 iw14 er14 B14
      generalize upd H13 pw (.lst [v, v, u1, v2, u3]) = H14
      intro w14 A14 e14 iw14 er14 B14
      -- the places
      refine ⟨_, rfl, pr, _, rfl, .inl (SqL.of er14), _, _, rfl, rfl, _, rfl, pr, _, rfl, .inl (SqL.of er14), _, rfl, (by show 1 ≤ sizeLine; decide), fun q1 m1 => ⟨10, 39, rfl, rfl, ⟨by decide, by decide, by decide⟩, 10, 39, rfl, rfl, ⟨by decide, by decide, by decide⟩, _, rfl, (by show 1 ≤ sizeLine; decide), fun q2 m2 => fun q3 m3 => ⟨(by show 13 ≤ sizeLine; decide), fun q4 m4 => ?_⟩⟩⟩
      have z1 := Same.new m1 (.lst [.int 0])
      have z2 := Same.new m2 (.tup [.int 0])
      have z3 := Same.new m3 (.dK [])
      have z4 := Same.new m4 (.lst [V.int 0, .int (((rs.map V.int).length : Nat) - 1), .int ((rs.map V.int).length : Nat), .int (-1), .bl true, .bl false, .non, .str "0", .ref q1, .int (10 ^ (39 : Int).toNat), .int (-10 ^ (39 : Int).toNat), .ref q2, .ref q3])
      have Z2 := z1.trans z2
      have Z3 := Z2.trans z3
      have Z4 := Z3.trans z4
      have v1 := w14.ne m1
      have v2' := (w14.keep z1 (Int.le_refl _)).ne m2
      have v3' := (w14.keep Z2 (Int.le_refl _)).ne m3
      have v4' := (w14.keep Z3 (Int.le_refl _)).ne m4
      have w15 := w14.keep Z4 (Int.le_refl _)
      have f3 := (off_ne v3').trans (z4 _ _ (upd_same (a := q3)))
      have f2 := (off_ne v2').trans (z4 _ _ (z3 _ _ (upd_same (a := q2))))
      have f1 := (off_ne v1).trans (z4 _ _ (z3 _ _ (z2 _ _ (upd_same (a := q1)))))
      have e15 := upd_same (H := upd (upd (upd H14 q1 (.lst [.int 0])) q2 (.tup [.int 0])) q3 (.dK [])) (a := q4) (o := .lst [V.int 0, .int (((rs.map V.int).length : Nat) - 1), .int ((rs.map V.int).length : Nat), .int (-1), .bl true, .bl false, .non, .str "0", .ref q1, .int (10 ^ (39 : Int).toNat), .int (-10 ^ (39 : Int).toNat), .ref q2, .ref q3])
      revert f1 f2 f3 e15 w15 Z4
      generalize upd (upd (upd (upd H14 q1 (.lst [.int 0])) q2 (.tup [.int 0])) q3 (.dK [])) q4 (.lst [V.int 0, .int (((rs.map V.int).length : Nat) - 1), .int ((rs.map V.int).length : Nat), .int (-1), .bl true, .bl false, .non, .str "0", .ref q1, .int (10 ^ (39 : Int).toNat), .int (-10 ^ (39 : Int).toNat), .ref q2, .ref q3]) = H15
      intro Z4 w15 f3 f2 f1 e15
      have lr : (rs.map V.int).length ≤ 9 := by rw [List.length_map]; omega
      have A15 : GpA (off wl H15) [V.int 0, .int (((rs.map V.int).length : Nat) - 1), .int ((rs.map V.int).length : Nat), .int (-1), .bl true, .bl false, .non, .str "0", .ref q1, .int (10 ^ (39 : Int).toNat), .int (-10 ^ (39 : Int).toNat), .ref q2, .ref q3] := by
        refine GpA.cons (gp_int _ (by decide)) (GpA.cons (gp_int _ ?_) (GpA.cons (gp_int _ ?_) (GpA.cons (gp_int _ (by decide)) (GpA.cons (gp_bl _) (GpA.cons (gp_bl _) (GpA.cons gp_non (GpA.cons (gp_str _ (by decide +kernel)) (GpA.cons ?_ (GpA.cons (gp_int _ (by decide)) (GpA.cons (gp_int _ (by decide)) (GpA.cons ?_ (GpA.cons ?_ GpA.nil))))))))))))
        · exact Nat.lt_of_lt_of_le (show _ < 100 by omega) (by decide)
        · exact Nat.lt_of_lt_of_le (show _ < 100 by omega) (by decide)
        · exact (gw_ok (d := .list [.int 0]) (by simp only [Dat, DatAll]; exact ⟨q1, _, rfl, f1, _, _, rfl, rfl, rfl⟩) (by simp only [OkD, OkAll]; decide) (by simp [szD, szAll]) (by simp [PyData.depth, PyData.depthAll])).gp
        · exact (gw_ok (d := .tuple [.int 0]) (by simp only [Dat, DatAll]; exact ⟨q2, _, rfl, f2, _, _, rfl, rfl, rfl⟩) (by simp only [OkD, OkAll]; decide) (by simp [szD, szAll]) (by simp [PyData.depth, PyData.depthAll])).gp
        · exact (gw_ok (d := .dict []) (by simp only [Dat, DatKv]; exact ⟨q3, _, rfl, f3, rfl⟩) (by simp only [OkD]) (by simp [szD]) (by simp [PyData.depth, PyData.depthKv])).gp
      refine ⟨_, rfl, _, rfl, wl, 13, _, rfl, by decide, by decide, w15, by omega, fun r2 H16 a2 b2 k16 w16 => ?_⟩
      obtain ⟨u, hat, hmem⟩ := pick (xs := [V.int 0, .int (((rs.map V.int).length : Nat) - 1), .int ((rs.map V.int).length : Nat), .int (-1), .bl true, .bl false, .non, .str "0", .ref q1, .int (10 ^ (39 : Int).toNat), .int (-10 ^ (39 : Int).toNat), .ref q2, .ref q3]) a2 b2
      refine ⟨q4, _, _, u, rfl, rfl, SqL.of (k16 _ _ v4' e15), hat, ?_⟩
      have gu := (A15 u hmem).mono (off_but k16)
      have B16 : But wl H14 H16 := (But.of Z4).trans k16
      -- the numbers
      refine ⟨_, rfl, 10, 39, rfl, rfl, ⟨by decide, by decide, by decide⟩, (by show 1 ≤ sizeLine; decide), fun s1 x1 => ⟨(by show 0 ≤ sizeLine; decide), fun s2 x2 => fun s3 x3 => ⟨t3, fun s4 x4 => ⟨t3, fun s5 x5 => ⟨t3, fun s6 x6 => ⟨(by show 14 ≤ sizeLine; decide), fun s7 x7 => ?_⟩⟩⟩⟩⟩⟩
      have o1 := Same.new x1 (.lst [.int 5])
      have o2 := Same.new x2 (.tup [])
      have o3 := Same.new x3 (.dK [])
      have o4 := Same.new x4 (.tup [.str "+", .int 1, .int 2])
      have o5 := Same.new x5 (.tup [.str "-", .int 3, .int 4])
      have o6 := Same.new x6 (.tup [.str "*", .int 2, .ref s5])
      have o7 := Same.new x7 (.lst [V.int 0, .int 5, .int (-7), .int (10 ^ (39 : Int).toNat), .bl true, .bl false, .non, .str "5", .str "", .ref s1, .ref s2, .ref s3, .ref s4, .ref s6])
      have O2 := o1.trans o2
      have O3 := O2.trans o3
      have O4 := O3.trans o4
      have O5 := O4.trans o5
      have O6 := O5.trans o6
      have O7 := O6.trans o7
      have i1 := w16.ne x1
      have i2 := (w16.keep o1 (Int.le_refl _)).ne x2
      have i3 := (w16.keep O2 (Int.le_refl _)).ne x3
      have i4 := (w16.keep O3 (Int.le_refl _)).ne x4
      have i5 := (w16.keep O4 (Int.le_refl _)).ne x5
      have i6 := (w16.keep O5 (Int.le_refl _)).ne x6
      have i7 := (w16.keep O6 (Int.le_refl _)).ne x7
      have w17 := w16.keep O7 (Int.le_refl _)
      have f6 := (off_ne i6).trans (o7 _ _ (upd_same (a := s6)))
      have f5 := (off_ne i5).trans (o7 _ _ (o6 _ _ (upd_same (a := s5))))
      have f4 := (off_ne i4).trans (o7 _ _ (o6 _ _ (o5 _ _ (upd_same (a := s4)))))
      have h3 := (off_ne i3).trans (o7 _ _ (o6 _ _ (o5 _ _ (o4 _ _ (upd_same (a := s3))))))
      have h2 := (off_ne i2).trans (o7 _ _ (o6 _ _ (o5 _ _ (o4 _ _ (o3 _ _ (upd_same (a := s2)))))))
      have h1 := (off_ne i1).trans (o7 _ _ (o6 _ _ (o5 _ _ (o4 _ _ (o3 _ _ (o2 _ _ (upd_same (a := s1))))))))
      have e17 := upd_same (H := upd (upd (upd (upd (upd (upd H16 s1 (.lst [.int 5])) s2 (.tup [])) s3 (.dK [])) s4 (.tup [.str "+", .int 1, .int 2])) s5 (.tup [.str "-", .int 3, .int 4])) s6 (.tup [.str "*", .int 2, .ref s5])) (a := s7) (o := .lst [V.int 0, .int 5, .int (-7), .int (10 ^ (39 : Int).toNat), .bl true, .bl false, .non, .str "5", .str "", .ref s1, .ref s2, .ref s3, .ref s4, .ref s6])
      revert f6 f5 f4 h3 h2 h1 e17 w17 O7
      generalize upd (upd (upd (upd (upd (upd (upd H16 s1 (.lst [.int 5])) s2 (.tup [])) s3 (.dK [])) s4 (.tup [.str "+", .int 1, .int 2])) s5 (.tup [.str "-", .int 3, .int 4])) s6 (.tup [.str "*", .int 2, .ref s5])) s7 (.lst [V.int 0, .int 5, .int (-7), .int (10 ^ (39 : Int).toNat), .bl true, .bl false, .non, .str "5", .str "", .ref s1, .ref s2, .ref s3, .ref s4, .ref s6]) = H17
      intro O7 w17 f6 f5 f4 h3 h2 h1 e17
      have B17 : But wl H14 H17 := B16.trans (But.of O7)
      have gv17 := gw_wy w17 (iw14.mono (w14.tups B17)) sm (by omega)
      have A17 : GpA (off wl H17) ([V.int 0, .int 5, .int (-7), .int (10 ^ (39 : Int).toNat), .bl true, .bl false, .non, .str "5", .str "", .ref s1, .ref s2, .ref s3, .ref s4, .ref s6] ++ [v]) := by
        refine GpA.cons (gp_int _ (by decide)) (GpA.cons (gp_int _ (by decide)) (GpA.cons (gp_int _ (by decide)) (GpA.cons (gp_int _ (by decide)) (GpA.cons (gp_bl _) (GpA.cons (gp_bl _) (GpA.cons gp_non (GpA.cons (gp_str _ (by decide +kernel)) (GpA.cons (gp_str _ (by decide +kernel)) (GpA.cons ?_ (GpA.cons ?_ (GpA.cons ?_ (GpA.cons ?_ (GpA.cons ?_ (GpA.cons gv17.gp GpA.nil))))))))))))))
        · exact (gw_ok (d := .list [.int 5]) (by simp only [Dat, DatAll]; exact ⟨s1, _, rfl, h1, _, _, rfl, rfl, rfl⟩) (by simp only [OkD, OkAll]; decide) (by simp [szD, szAll]) (by simp [PyData.depth, PyData.depthAll])).gp
        · exact (gw_ok (d := .tuple []) (by simp only [Dat, DatAll]; exact ⟨s2, _, rfl, h2, rfl⟩) (by simp only [OkD, OkAll]) (by simp [szD, szAll]) (by simp [PyData.depth, PyData.depthAll])).gp
        · exact (gw_ok (d := .dict []) (by simp only [Dat, DatKv]; exact ⟨s3, _, rfl, h3, rfl⟩) (by simp only [OkD]) (by simp [szD]) (by simp [PyData.depth, PyData.depthKv])).gp
        · exact (gw_ok (d := .tuple [.str "+", .int 1, .int 2]) (by simp only [Dat, DatAll]; exact ⟨s4, _, rfl, f4, _, _, rfl, rfl, _, _, rfl, rfl, _, _, rfl, rfl, rfl⟩) (by simp only [OkD, OkAll]; decide +kernel) (by simp [szD, szAll]) (by simp [PyData.depth, PyData.depthAll])).gp
        · exact (gw_ok (d := .tuple [.str "*", .int 2, .tuple [.str "-", .int 3, .int 4]]) (by simp only [Dat, DatAll]; exact ⟨s6, _, rfl, f6, _, _, rfl, rfl, _, _, rfl, rfl, _, _, rfl, ⟨s5, _, rfl, f5, _, _, rfl, rfl, _, _, rfl, rfl, _, _, rfl, rfl, rfl⟩, rfl⟩) (by simp only [OkD, OkAll]; decide +kernel) (by simp [szD, szAll]) (by simp [PyData.depth, PyData.depthAll])).gp
      refine ⟨_, rfl, _, rfl, (by show 1 ≤ sizeLine; decide), fun s8 x8 => ?_⟩
      have o8 := Same.new x8 (.lst [v])
      refine ⟨s7, s8, _, _, rfl, rfl, o8 _ _ e17, upd_same, le_line (by show 14 + 1 ≤ 1000; decide), fun s9 x9 => ?_⟩
      have o9 := Same.new x9 (.lst ([V.int 0, .int 5, .int (-7), .int (10 ^ (39 : Int).toNat), .bl true, .bl false, .non, .str "5", .str "", .ref s1, .ref s2, .ref s3, .ref s4, .ref s6] ++ [v]))
      have O9 := o8.trans o9
      have w18 := w17.keep O9 (Int.le_refl _)
      have i9 := (w17.keep o8 (Int.le_refl _)).ne x9
      refine ⟨_, rfl, wl, 15, _, rfl, by decide, by decide, w18, by omega, fun r3 H19 a3 b3 k19 w19 => ?_⟩
      obtain ⟨x, hat2, hmem2⟩ := pick (xs := [V.int 0, .int 5, .int (-7), .int (10 ^ (39 : Int).toNat), .bl true, .bl false, .non, .str "5", .str "", .ref s1, .ref s2, .ref s3, .ref s4, .ref s6] ++ [v]) a3 b3
      refine ⟨s9, _, _, x, rfl, rfl, SqL.of (k19 _ _ i9 upd_same), hat2, ?_⟩
      have gx := (A17 x hmem2).mono (off_but ((But.of O9).trans k19))
      have B19 : But wl H16 H19 := ((But.of O7).trans (But.of O9)).trans k19
      have gu19 := gu.mono (off_but B19)
      have e19 := (B16.trans B19) _ _ pww e14
      have A19 := A14.mono (off_but (B16.trans B19))
      have iw19 := iw14.mono (w14.tups (B16.trans B19))
      have B8' : But wl H8 H19 := B14.trans (B16.trans B19)
      -- held
      refine ⟨_, rfl, _, rfl, wl, 5, _, rfl, by decide, by decide, w19, by omega, fun r4 H20 a4 b4 k20 w20 => ?_⟩
      obtain ⟨y, hat3, hmem3⟩ := pick (xs := [v, v, u1, v2, u3]) a4 b4
      refine ⟨pw, _, _, y, rfl, rfl, SqL.of (k20 _ _ pww e19), hat3, ?_⟩
      obtain ⟨dy, y1', y2', y3', y4'⟩ := ((A19 y hmem3).mono (off_but k20)).mono off_le
      obtain ⟨du, hdu, pdu⟩ := (gu19.mono (off_but k20)).mono off_le
      obtain ⟨dx, hdx, pdx⟩ := (gx.mono (off_but k20)).mono off_le
      refine ⟨_, rfl, _, rfl, dy, y, du, u, dx, x, rfl, y1', hdu, hdx, y2', y3', y4', pdu, pdx, fun H21 g21 => ⟨true, rfl, iteF ?_⟩⟩
      have w21 := w20.keep g21 (Int.le_refl _)
      have iw21 := iw19.mono ((w19.tups k20).trans (Tups.of g21))
      obtain ⟨dv, v1', v2'', v3'', v4''⟩ := (gw_wy w21 iw21 sm (by omega)).mono off_le
      refine ⟨_, rfl, _, rfl, _, rfl, dv, v, du, u, dx, x, rfl, v1', Dat.mono g21 du u hdu, Dat.mono g21 dx x hdx, v2'', v3'', v4'', pdu, pdx, fun H22 g22 => ⟨true, rfl, iteF ?_⟩⟩
      have G22 := g21.trans g22
      refine ⟨_, rfl, _, rfl, dv, v, .int 0, _, dx, x, rfl, Dat.mono g22 dv v v1', (by simp only [Dat]), Dat.mono G22 dx x hdx, v2'', v3'', v4'', pr_int (by decide), pdx, fun H23 g23 => ⟨true, rfl, iteF ?_⟩⟩
      have w23 := w21.keep (g22.trans g23) (Int.le_refl _)
      refine ⟨_, rfl, _, rfl, wl, wy, v, _, rfl, iw21.mono (Tups.of (g22.trans g23)), by omega, by decide, sm, w23, by omega, fun d4 u4 H24 b24 w24 hd4 ok4 sz4 dp4 => ?_⟩
      obtain ⟨_, z1', z2', z3', z4'⟩ := (gw_ok hd4 ok4 (by omega) (by omega)).mono off_le
      refine ⟨_, u4, .int 0, _, .int 1, _, rfl, z1', (by simp only [Dat]), (by simp only [Dat]), z2', z3', z4', pr_int (by decide), pr_int (by decide), fun H25 g25 => ⟨true, rfl, iteF ?_⟩⟩
      refine ⟨_, _, _, _, _, _, rfl, ?_, (w24.keep g25 (Int.le_refl _)).more (by omega)⟩
      exact ((B8'.trans k20).trans (But.of (G22.trans g23))).trans (b24.trans (But.of g25))
    · rintro σ H9 ⟨turn, ways, places, place, numbers, number, rfl, b9, w9⟩
      exact ⟨_, _, _, _, _, _, _, _, _, _, rfl, But.same (S.trans g4) nwl (B8.trans b9)⟩
  · rintro σ H4 ⟨cell, well, row, way, turn, ways, places, place, numbers, number, rfl, S⟩
    refine ⟨t3, fun s1 x1 => ⟨t3, fun s2 x2 => ?_⟩⟩
    have o1 := Same.new x1 (.tup [.str "+", .int 1, .int 2])
    have o2 := Same.new x2 (.tup [.str "*", .int 3, .int 4])
    have f2 := upd_same (H := upd H4 s1 (.tup [.str "+", .int 1, .int 2])) (a := s2) (o := .tup [.str "*", .int 3, .int 4])
    have f1 := o2 _ _ (upd_same (H := H4) (a := s1) (o := .tup [.str "+", .int 1, .int 2]))
    revert f1 f2
    generalize upd (upd H4 s1 (.tup [.str "+", .int 1, .int 2])) s2 (.tup [.str "*", .int 3, .int 4]) = H5
    intro f2 f1
    have gw1 : Gw H5 (.ref s1) := gw_ok (d := .tuple [.str "+", .int 1, .int 2]) (by simp only [Dat, DatAll]; exact ⟨s1, _, rfl, f1, _, _, rfl, rfl, _, _, rfl, rfl, _, _, rfl, rfl, rfl⟩) (by simp only [OkD, OkAll]; decide +kernel) (by simp [szD, szAll]) (by simp [PyData.depth, PyData.depthAll])
    have gw2 : Gp H5 (.ref s2) := (gw_ok (d := .tuple [.str "*", .int 3, .int 4]) (by simp only [Dat, DatAll]; exact ⟨s2, _, rfl, f2, _, _, rfl, rfl, _, _, rfl, rfl, _, _, rfl, rfl, rfl⟩) (by simp only [OkD, OkAll]; decide +kernel) (by simp [szD, szAll]) (by simp [PyData.depth, PyData.depthAll])).gp
    have gwT : ∀ H, Gw H (.bl true) := fun H => gw_ok (d := .bool true) (by simp only [Dat]) (by simp only [OkD]) (by simp [szD]) (by simp [PyData.depth])
    have gwN : ∀ H, Gw H .non := fun H => gw_ok (d := .none) (by simp only [Dat]) (by simp only [OkD]) (by simp [szD]) (by simp [PyData.depth])
    obtain ⟨_, a1, a2, a3, a4⟩ := gw1
    obtain ⟨_, b1, b2⟩ := gp_int (H := H5) 0 (by decide)
    obtain ⟨_, c1, c2⟩ := gw2
    refine ⟨_, _, _, _, _, _, rfl, a1, b1, c1, a2, a3, a4, b2, c2, fun H6 _ => ⟨true, rfl, iteF ?_⟩⟩
    obtain ⟨_, a1, a2, a3, a4⟩ := gw_int (H := H6) 5 (by decide)
    obtain ⟨_, b1, b2⟩ := gp_bl (H := H6) false
    obtain ⟨_, c1, c2⟩ := gp_int (H := H6) 1 (by decide)
    refine ⟨_, _, _, _, _, _, rfl, a1, b1, c1, a2, a3, a4, b2, c2, fun H7 _ => ⟨true, rfl, iteF ?_⟩⟩
    obtain ⟨_, a1, a2, a3, a4⟩ := gw_int (H := H7) 5 (by decide)
    obtain ⟨_, b1, b2⟩ := gp_int (H := H7) 0 (by decide)
    obtain ⟨_, c1, c2⟩ := gp_bl (H := H7) false
    refine ⟨_, _, _, _, _, _, rfl, a1, b1, c1, a2, a3, a4, b2, c2, fun H8 _ => ⟨true, rfl, iteF ?_⟩⟩
    obtain ⟨_, a1, a2, a3, a4⟩ := gw_int (H := H8) 5 (by decide)
    obtain ⟨_, b1, b2⟩ := gp_int (H := H8) 1 (by decide)
    obtain ⟨_, c1, c2⟩ := gp_non (H := H8)
    refine ⟨_, _, _, _, _, _, rfl, a1, b1, c1, a2, a3, a4, b2, c2, fun H9 _ => ⟨true, rfl, iteT ?_⟩⟩
    obtain ⟨_, a1, a2, a3, a4⟩ := gwT H9
    obtain ⟨_, b1, b2⟩ := gp_int (H := H9) 0 (by decide)
    obtain ⟨_, c1, c2⟩ := gp_int (H := H9) 1 (by decide)
    refine ⟨_, _, _, _, _, _, rfl, a1, b1, c1, a2, a3, a4, b2, c2, fun H10 _ => ⟨true, rfl, iteT ?_⟩⟩
    obtain ⟨_, a1, a2, a3, a4⟩ := gwN H10
    obtain ⟨_, b1, b2⟩ := gp_non (H := H10)
    obtain ⟨_, c1, c2⟩ := gp_non (H := H10)
    exact ⟨_, _, _, _, _, _, rfl, a1, b1, c1, a2, a3, a4, b2, c2, fun H11 _ => q _⟩
end
end Put

set_option Elab.async false
set_option linter.all false
set_option maxRecDepth 100000
set_option maxHeartbeats 4000000
namespace Put
open PySem L2
theorem all_mk {l : PySem.W.OpenLaw} {w : World} {K : PySem.W.Frag} {h : Heap} {mg : Str → Option Value} {fa : Addr} (X : K.In h) (G : h.Ns mainGlobals mg) (hfa : mg "law" = some (.ref fa))
    {tM tS1 tS2 tS3 : Tok} {cS : Addr} {odS : Option Addr} {nS : Nat} {slS : Array (Option Value)}
    {aP aR aS aW aN aL aF aO aA aH aT aM : Addr}
    {aPN : Addr} {aPnm aPq : Str} {aPbs aPsub : List Value} {aPhd aPab : Bool} {aPsn : List Str} {aPcol : Option Bool} {aPdd aPod : Option Addr} {aPk0 aPk1 aPk2 aPk3 aPk5 : Option Value} {aPc : Value} {aPes : Array DictEntry} {aPn : Nat} {aPsl : Array (Option Value)}
    {aWN : Addr} {aWnm aWq : Str} {aWbs aWsub : List Value} {aWhd aWab : Bool} {aWsn : List Str} {aWcol : Option Bool} {aWdd aWod : Option Addr} {aWk0 aWk1 aWk2 aWk3 aWk5 : Option Value} {aWc : Value} {aWes : Array DictEntry} {aWn : Nat} {aWsl : Array (Option Value)}
    {aNN : Addr} {aNnm aNq : Str} {aNbs aNsub : List Value} {aNhd aNab : Bool} {aNsn : List Str} {aNcol : Option Bool} {aNdd aNod : Option Addr} {aNk0 aNk1 aNk2 aNk3 aNk5 : Option Value} {aNc : Value} {aNes : Array DictEntry} {aNn : Nat} {aNsl : Array (Option Value)}
    {aLN : Addr} {aLnm aLq : Str} {aLbs aLsub : List Value} {aLhd aLab : Bool} {aLsn : List Str} {aLcol : Option Bool} {aLdd aLod : Option Addr} {aLk0 aLk1 aLk2 aLk3 aLk5 : Option Value} {aLc : Value} {aLes : Array DictEntry} {aLn : Nat} {aLsl : Array (Option Value)}
    {aRcd : ClassData}
    {aScd : ClassData}
    {aWcd : ClassData}
    {aNcd : ClassData}
    {aLcd : ClassData}
    {aFcd : ClassData}
    {aOcd : ClassData}
    {aAcd : ClassData}
    {aHcd : ClassData}
    {aTcd : ClassData}
    {aMcd : ClassData}
{od0 an0 : Option Addr} {sl0 : Array (Option Value)} {oc0 kV0 dc0 pm0 cd0 ct0 : Value} {f0 : Addr}
{od1 an1 : Option Addr} {sl1 : Array (Option Value)} {oc1 kV1 dc1 pm1 cd1 ct1 : Value} {f1 : Addr}
{od2 an2 : Option Addr} {sl2 : Array (Option Value)} {oc2 kV2 dc2 pm2 cd2 ct2 : Value} {f2 : Addr}
{od3 an3 : Option Addr} {sl3 : Array (Option Value)} {oc3 kV3 dc3 pm3 cd3 ct3 : Value} {f3 : Addr}
{od4 an4 : Option Addr} {sl4 : Array (Option Value)} {oc4 kV4 dc4 pm4 cd4 ct4 : Value} {f4 : Addr}
{od5 an5 : Option Addr} {sl5 : Array (Option Value)} {oc5 kV5 dc5 pm5 cd5 ct5 : Value} {f5 : Addr}
{od6 an6 : Option Addr} {sl6 : Array (Option Value)} {oc6 kV6 dc6 pm6 cd6 ct6 : Value} {f6 : Addr}
{od7 an7 : Option Addr} {sl7 : Array (Option Value)} {oc7 kV7 dc7 pm7 cd7 ct7 : Value} {f7 : Addr}
{od8 an8 : Option Addr} {sl8 : Array (Option Value)} {oc8 kV8 dc8 pm8 cd8 ct8 : Value} {f8 : Addr}
{od9 an9 : Option Addr} {sl9 : Array (Option Value)} {oc9 kV9 dc9 pm9 cd9 ct9 : Value} {f9 : Addr}
{od10 an10 : Option Addr} {sl10 : Array (Option Value)} {oc10 kV10 dc10 pm10 cd10 ct10 : Value} {f10 : Addr}
{od11 an11 : Option Addr} {sl11 : Array (Option Value)} {oc11 kV11 dc11 pm11 cd11 ct11 : Value} {f11 : Addr}
{od12 an12 : Option Addr} {sl12 : Array (Option Value)} {oc12 kV12 dc12 pm12 cd12 ct12 : Value} {f12 : Addr}
{od13 an13 : Option Addr} {sl13 : Array (Option Value)} {oc13 kV13 dc13 pm13 cd13 ct13 : Value} {f13 : Addr}
{od14 an14 : Option Addr} {sl14 : Array (Option Value)} {oc14 kV14 dc14 pm14 cd14 ct14 : Value} {f14 : Addr}
{od15 an15 : Option Addr} {sl15 : Array (Option Value)} {oc15 kV15 dc15 pm15 cd15 ct15 : Value} {f15 : Addr}
{od16 an16 : Option Addr} {sl16 : Array (Option Value)} {oc16 kV16 dc16 pm16 cd16 ct16 : Value} {f16 : Addr}
{od17 an17 : Option Addr} {sl17 : Array (Option Value)} {oc17 kV17 dc17 pm17 cd17 ct17 : Value} {f17 : Addr}
{od18 an18 : Option Addr} {sl18 : Array (Option Value)} {oc18 kV18 dc18 pm18 cd18 ct18 : Value} {f18 : Addr}
{od19 an19 : Option Addr} {sl19 : Array (Option Value)} {oc19 kV19 dc19 pm19 cd19 ct19 : Value} {f19 : Addr}
{od20 an20 : Option Addr} {sl20 : Array (Option Value)} {oc20 kV20 dc20 pm20 cd20 ct20 : Value} {f20 : Addr}
{od21 an21 : Option Addr} {sl21 : Array (Option Value)} {oc21 kV21 dc21 pm21 cd21 ct21 : Value} {f21 : Addr}
{od22 an22 : Option Addr} {sl22 : Array (Option Value)} {oc22 kV22 dc22 pm22 cd22 ct22 : Value} {f22 : Addr}
{od23 an23 : Option Addr} {sl23 : Array (Option Value)} {oc23 kV23 dc23 pm23 cd23 ct23 : Value} {f23 : Addr}
{od24 an24 : Option Addr} {sl24 : Array (Option Value)} {oc24 kV24 dc24 pm24 cd24 ct24 : Value} {f24 : Addr}
{od25 an25 : Option Addr} {sl25 : Array (Option Value)} {oc25 kV25 dc25 pm25 cd25 ct25 : Value} {f25 : Addr}
{od26 an26 : Option Addr} {sl26 : Array (Option Value)} {oc26 kV26 dc26 pm26 cd26 ct26 : Value} {f26 : Addr}
{od27 an27 : Option Addr} {sl27 : Array (Option Value)} {oc27 kV27 dc27 pm27 cd27 ct27 : Value} {f27 : Addr}
{od28 an28 : Option Addr} {sl28 : Array (Option Value)} {oc28 kV28 dc28 pm28 cd28 ct28 : Value} {f28 : Addr}
{od29 an29 : Option Addr} {sl29 : Array (Option Value)} {oc29 kV29 dc29 pm29 cd29 ct29 : Value} {f29 : Addr}
{od30 an30 : Option Addr} {sl30 : Array (Option Value)} {oc30 kV30 dc30 pm30 cd30 ct30 : Value} {f30 : Addr}
    (a0 : PySem.W.nsIn K mainGlobals "is_whole" = some (some (.ref f0))) (l0 : K.lookup f0 = some ⟨oc0, od0, .func (PySem.W.fnOf "is_whole" "is_whole" (defArgs s_is_whole) (defBody s_is_whole) (defScope s_is_whole) .none kV0 dc0 pm0 an0 cd0 ct0), sl0⟩) (c0 : PySem.W.codeIn K cd0 "is_whole" = true) (k0 : PySem.W.keepIn K (.ref f0) = true)
    (a1 : PySem.W.nsIn K mainGlobals "is_sign" = some (some (.ref f1))) (l1 : K.lookup f1 = some ⟨oc1, od1, .func (PySem.W.fnOf "is_sign" "is_sign" (defArgs s_is_sign) (defBody s_is_sign) (defScope s_is_sign) .none kV1 dc1 pm1 an1 cd1 ct1), sl1⟩) (c1 : PySem.W.codeIn K cd1 "is_sign" = true) (k1 : PySem.W.keepIn K (.ref f1) = true)
    (a2 : PySem.W.nsIn K mainGlobals "is_way" = some (some (.ref f2))) (l2 : K.lookup f2 = some ⟨oc2, od2, .func (PySem.W.fnOf "is_way" "is_way" (defArgs s_is_way) (defBody s_is_way) (defScope s_is_way) .none kV2 dc2 pm2 an2 cd2 ct2), sl2⟩) (c2 : PySem.W.codeIn K cd2 "is_way" = true) (k2 : PySem.W.keepIn K (.ref f2) = true)
    (a3 : PySem.W.nsIn K mainGlobals "need_way" = some (some (.ref f3))) (l3 : K.lookup f3 = some ⟨oc3, od3, .func (PySem.W.fnOf "need_way" "need_way" (defArgs s_need_way) (defBody s_need_way) (defScope s_need_way) .none kV3 dc3 pm3 an3 cd3 ct3), sl3⟩) (c3 : PySem.W.codeIn K cd3 "need_way" = true) (k3 : PySem.W.keepIn K (.ref f3) = true)
    (a4 : PySem.W.nsIn K mainGlobals "need_whole" = some (some (.ref f4))) (l4 : K.lookup f4 = some ⟨oc4, od4, .func (PySem.W.fnOf "need_whole" "need_whole" (defArgs s_need_whole) (defBody s_need_whole) (defScope s_need_whole) .none kV4 dc4 pm4 an4 cd4 ct4), sl4⟩) (c4 : PySem.W.codeIn K cd4 "need_whole" = true) (k4 : PySem.W.keepIn K (.ref f4) = true)
    (a5 : PySem.W.nsIn K mainGlobals "list_numbers" = some (some (.ref f5))) (l5 : K.lookup f5 = some ⟨oc5, od5, .func (PySem.W.fnOf "list_numbers" "list_numbers" (defArgs s_list_numbers) (defBody s_list_numbers) (defScope s_list_numbers) .none kV5 dc5 pm5 an5 cd5 ct5), sl5⟩) (c5 : PySem.W.codeIn K cd5 "list_numbers" = true) (k5 : PySem.W.keepIn K (.ref f5) = true)
    (a6 : PySem.W.nsIn K mainGlobals "worth_of" = some (some (.ref f6))) (l6 : K.lookup f6 = some ⟨oc6, od6, .func (PySem.W.fnOf "worth_of" "worth_of" (defArgs s_worth_of) (defBody s_worth_of) (defScope s_worth_of) .none kV6 dc6 pm6 an6 cd6 ct6), sl6⟩) (c6 : PySem.W.codeIn K cd6 "worth_of" = true) (k6 : PySem.W.keepIn K (.ref f6) = true)
    (a7 : PySem.W.nsIn K mainGlobals "part_worths" = some (some (.ref f7))) (l7 : K.lookup f7 = some ⟨oc7, od7, .func (PySem.W.fnOf "part_worths" "part_worths" (defArgs s_part_worths) (defBody s_part_worths) (defScope s_part_worths) .none kV7 dc7 pm7 an7 cd7 ct7), sl7⟩) (c7 : PySem.W.codeIn K cd7 "part_worths" = true) (k7 : PySem.W.keepIn K (.ref f7) = true)
    (a8 : PySem.W.nsIn K mainGlobals "hangs_by" = some (some (.ref f8))) (l8 : K.lookup f8 = some ⟨oc8, od8, .func (PySem.W.fnOf "hangs_by" "hangs_by" (defArgs s_hangs_by) (defBody s_hangs_by) (defScope s_hangs_by) .none kV8 dc8 pm8 an8 cd8 ct8), sl8⟩) (c8 : PySem.W.codeIn K cd8 "hangs_by" = true) (k8 : PySem.W.keepIn K (.ref f8) = true)
    (a9 : PySem.W.nsIn K mainGlobals "with_number" = some (some (.ref f9))) (l9 : K.lookup f9 = some ⟨oc9, od9, .func (PySem.W.fnOf "with_number" "with_number" (defArgs s_with_number) (defBody s_with_number) (defScope s_with_number) .none kV9 dc9 pm9 an9 cd9 ct9), sl9⟩) (c9 : PySem.W.codeIn K cd9 "with_number" = true) (k9 : PySem.W.keepIn K (.ref f9) = true)
    (a10 : PySem.W.nsIn K mainGlobals "need_place" = some (some (.ref f10))) (l10 : K.lookup f10 = some ⟨oc10, od10, .func (PySem.W.fnOf "need_place" "need_place" (defArgs s_need_place) (defBody s_need_place) (defScope s_need_place) .none kV10 dc10 pm10 an10 cd10 ct10), sl10⟩) (c10 : PySem.W.codeIn K cd10 "need_place" = true) (k10 : PySem.W.keepIn K (.ref f10) = true)
    (a11 : PySem.W.nsIn K mainGlobals "put_sign" = some (some (.ref f11))) (l11 : K.lookup f11 = some ⟨oc11, od11, .func (PySem.W.fnOf "put_sign" "put_sign" (defArgs s_put_sign) (defBody s_put_sign) (defScope s_put_sign) .none kV11 dc11 pm11 an11 cd11 ct11), sl11⟩) (c11 : PySem.W.codeIn K cd11 "put_sign" = true) (k11 : PySem.W.keepIn K (.ref f11) = true)
    (a12 : PySem.W.nsIn K mainGlobals "find_worth" = some (some (.ref f12))) (l12 : K.lookup f12 = some ⟨oc12, od12, .func (PySem.W.fnOf "find_worth" "find_worth" (defArgs s_find_worth) (defBody s_find_worth) (defScope s_find_worth) .none kV12 dc12 pm12 an12 cd12 ct12), sl12⟩) (c12 : PySem.W.codeIn K cd12 "find_worth" = true) (k12 : PySem.W.keepIn K (.ref f12) = true)
    (a13 : PySem.W.nsIn K mainGlobals "worths_by_stretch" = some (some (.ref f13))) (l13 : K.lookup f13 = some ⟨oc13, od13, .func (PySem.W.fnOf "worths_by_stretch" "worths_by_stretch" (defArgs s_worths_by_stretch) (defBody s_worths_by_stretch) (defScope s_worths_by_stretch) .none kV13 dc13 pm13 an13 cd13 ct13), sl13⟩) (c13 : PySem.W.codeIn K cd13 "worths_by_stretch" = true) (k13 : PySem.W.keepIn K (.ref f13) = true)
    (a14 : PySem.W.nsIn K mainGlobals "times_and_plus" = some (some (.ref f14))) (l14 : K.lookup f14 = some ⟨oc14, od14, .func (PySem.W.fnOf "times_and_plus" "times_and_plus" (defArgs s_times_and_plus) (defBody s_times_and_plus) (defScope s_times_and_plus) .none kV14 dc14 pm14 an14 cd14 ct14), sl14⟩) (c14 : PySem.W.codeIn K cd14 "times_and_plus" = true) (k14 : PySem.W.keepIn K (.ref f14) = true)
    (a15 : PySem.W.nsIn K mainGlobals "put_number" = some (some (.ref f15))) (l15 : K.lookup f15 = some ⟨oc15, od15, .func (PySem.W.fnOf "put_number" "put_number" (defArgs s_put_number) (defBody s_put_number) (defScope s_put_number) .none kV15 dc15 pm15 an15 cd15 ct15), sl15⟩) (c15 : PySem.W.codeIn K cd15 "put_number" = true) (k15 : PySem.W.keepIn K (.ref f15) = true)
    (a16 : PySem.W.nsIn K mainGlobals "_law_mixed" = some (some (.ref f16))) (l16 : K.lookup f16 = some ⟨oc16, od16, .func (PySem.W.fnOf "_law_mixed" "_law_mixed" (defArgs s__law_mixed) (defBody s__law_mixed) (defScope s__law_mixed) .none kV16 dc16 pm16 an16 cd16 ct16), sl16⟩) (c16 : PySem.W.codeIn K cd16 "_law_mixed" = true) (k16 : PySem.W.keepIn K (.ref f16) = true)
    (a17 : PySem.W.nsIn K mainGlobals "_law_well" = some (some (.ref f17))) (l17 : K.lookup f17 = some ⟨oc17, od17, .func (PySem.W.fnOf "_law_well" "_law_well" (defArgs s__law_well) (defBody s__law_well) (defScope s__law_well) .none kV17 dc17 pm17 an17 cd17 ct17), sl17⟩) (c17 : PySem.W.codeIn K cd17 "_law_well" = true) (k17 : PySem.W.keepIn K (.ref f17) = true)
    (a18 : PySem.W.nsIn K mainGlobals "_law_draw" = some (some (.ref f18))) (l18 : K.lookup f18 = some ⟨oc18, od18, .func (PySem.W.fnOf "_law_draw" "_law_draw" (defArgs s__law_draw) (defBody s__law_draw) (defScope s__law_draw) .none kV18 dc18 pm18 an18 cd18 ct18), sl18⟩) (c18 : PySem.W.codeIn K cd18 "_law_draw" = true) (k18 : PySem.W.keepIn K (.ref f18) = true)
    (a19 : PySem.W.nsIn K mainGlobals "_law_number" = some (some (.ref f19))) (l19 : K.lookup f19 = some ⟨oc19, od19, .func (PySem.W.fnOf "_law_number" "_law_number" (defArgs s__law_number) (defBody s__law_number) (defScope s__law_number) .none kV19 dc19 pm19 an19 cd19 ct19), sl19⟩) (c19 : PySem.W.codeIn K cd19 "_law_number" = true) (k19 : PySem.W.keepIn K (.ref f19) = true)
    (a20 : PySem.W.nsIn K mainGlobals "_law_row" = some (some (.ref f20))) (l20 : K.lookup f20 = some ⟨oc20, od20, .func (PySem.W.fnOf "_law_row" "_law_row" (defArgs s__law_row) (defBody s__law_row) (defScope s__law_row) .none kV20 dc20 pm20 an20 cd20 ct20), sl20⟩) (c20 : PySem.W.codeIn K cd20 "_law_row" = true) (k20 : PySem.W.keepIn K (.ref f20) = true)
    (a21 : PySem.W.nsIn K mainGlobals "_law_signs" = some (some (.ref f21))) (l21 : K.lookup f21 = some ⟨oc21, od21, .func (PySem.W.fnOf "_law_signs" "_law_signs" (defArgs s__law_signs) (defBody s__law_signs) (defScope s__law_signs) .none kV21 dc21 pm21 an21 cd21 ct21), sl21⟩) (c21 : PySem.W.codeIn K cd21 "_law_signs" = true) (k21 : PySem.W.keepIn K (.ref f21) = true)
    (a22 : PySem.W.nsIn K mainGlobals "_law_way" = some (some (.ref f22))) (l22 : K.lookup f22 = some ⟨oc22, od22, .func (PySem.W.fnOf "_law_way" "_law_way" (defArgs s__law_way) (defBody s__law_way) (defScope s__law_way) .none kV22 dc22 pm22 an22 cd22 ct22), sl22⟩) (c22 : PySem.W.codeIn K cd22 "_law_way" = true) (k22 : PySem.W.keepIn K (.ref f22) = true)
    (a23 : PySem.W.nsIn K mainGlobals "_law_odd" = some (some (.ref f23))) (l23 : K.lookup f23 = some ⟨oc23, od23, .func (PySem.W.fnOf "_law_odd" "_law_odd" (defArgs s__law_odd) (defBody s__law_odd) (defScope s__law_odd) .none kV23 dc23 pm23 an23 cd23 ct23), sl23⟩) (c23 : PySem.W.codeIn K cd23 "_law_odd" = true) (k23 : PySem.W.keepIn K (.ref f23) = true)
    (a24 : PySem.W.nsIn K mainGlobals "_law_bad_way" = some (some (.ref f24))) (l24 : K.lookup f24 = some ⟨oc24, od24, .func (PySem.W.fnOf "_law_bad_way" "_law_bad_way" (defArgs s__law_bad_way) (defBody s__law_bad_way) (defScope s__law_bad_way) .none kV24 dc24 pm24 an24 cd24 ct24), sl24⟩) (c24 : PySem.W.codeIn K cd24 "_law_bad_way" = true) (k24 : PySem.W.keepIn K (.ref f24) = true)
    (a25 : PySem.W.nsIn K mainGlobals "_law_kind" = some (some (.ref f25))) (l25 : K.lookup f25 = some ⟨oc25, od25, .func (PySem.W.fnOf "_law_kind" "_law_kind" (defArgs s__law_kind) (defBody s__law_kind) (defScope s__law_kind) .none kV25 dc25 pm25 an25 cd25 ct25), sl25⟩) (c25 : PySem.W.codeIn K cd25 "_law_kind" = true) (k25 : PySem.W.keepIn K (.ref f25) = true)
    (a26 : PySem.W.nsIn K mainGlobals "_law_whole" = some (some (.ref f26))) (l26 : K.lookup f26 = some ⟨oc26, od26, .func (PySem.W.fnOf "_law_whole" "_law_whole" (defArgs s__law_whole) (defBody s__law_whole) (defScope s__law_whole) .none kV26 dc26 pm26 an26 cd26 ct26), sl26⟩) (c26 : PySem.W.codeIn K cd26 "_law_whole" = true) (k26 : PySem.W.keepIn K (.ref f26) = true)
    (a27 : PySem.W.nsIn K mainGlobals "_law_many" = some (some (.ref f27))) (l27 : K.lookup f27 = some ⟨oc27, od27, .func (PySem.W.fnOf "_law_many" "_law_many" (defArgs s__law_many) (defBody s__law_many) (defScope s__law_many) .none kV27 dc27 pm27 an27 cd27 ct27), sl27⟩) (c27 : PySem.W.codeIn K cd27 "_law_many" = true) (k27 : PySem.W.keepIn K (.ref f27) = true)
    (a28 : PySem.W.nsIn K mainGlobals "_law_told" = some (some (.ref f28))) (l28 : K.lookup f28 = some ⟨oc28, od28, .func (PySem.W.fnOf "_law_told" "_law_told" (defArgs s__law_told) (defBody s__law_told) (defScope s__law_told) .none kV28 dc28 pm28 an28 cd28 ct28), sl28⟩) (c28 : PySem.W.codeIn K cd28 "_law_told" = true) (k28 : PySem.W.keepIn K (.ref f28) = true)
    (a29 : PySem.W.nsIn K mainGlobals "_law_right" = some (some (.ref f29))) (l29 : K.lookup f29 = some ⟨oc29, od29, .func (PySem.W.fnOf "_law_right" "_law_right" (defArgs s__law_right) (defBody s__law_right) (defScope s__law_right) .none kV29 dc29 pm29 an29 cd29 ct29), sl29⟩) (c29 : PySem.W.codeIn K cd29 "_law_right" = true) (k29 : PySem.W.keepIn K (.ref f29) = true)
    (a30 : PySem.W.nsIn K mainGlobals "law" = some (some (.ref f30))) (l30 : K.lookup f30 = some ⟨oc30, od30, .func (PySem.W.fnOf "law" "law" (defArgs s_law) (defBody s_law) (defScope s_law) .none kV30 dc30 pm30 an30 cd30 ct30), sl30⟩) (c30 : PySem.W.codeIn K cd30 "law" = true) (k30 : PySem.W.keepIn K (.ref f30) = true)
    (z_len : PySem.W.nsIn K mainGlobals "len" = some none)
    (z_isinstance : PySem.W.nsIn K mainGlobals "isinstance" = some none)
    (z_int : PySem.W.nsIn K mainGlobals "int" = some none)
    (z_bool : PySem.W.nsIn K mainGlobals "bool" = some none)
    (z_str : PySem.W.nsIn K mainGlobals "str" = some none)
    (z_tuple : PySem.W.nsIn K mainGlobals "tuple" = some none)
    (z_list : PySem.W.nsIn K mainGlobals "list" = some none)
    (z_sorted : PySem.W.nsIn K mainGlobals "sorted" = some none)
    (z_range : PySem.W.nsIn K mainGlobals "range" = some none)
    (z_repr : PySem.W.nsIn K mainGlobals "repr" = some none)
    (z_enumerate : PySem.W.nsIn K mainGlobals "enumerate" = some none)
    (z_sum : PySem.W.nsIn K mainGlobals "sum" = some none)
    (z_all : PySem.W.nsIn K mainGlobals "all" = some none)
    (z_min : PySem.W.nsIn K mainGlobals "min" = some none)
    (z_max : PySem.W.nsIn K mainGlobals "max" = some none)
    (z_abs : PySem.W.nsIn K mainGlobals "abs" = some none)
    (z_divmod : PySem.W.nsIn K mainGlobals "divmod" = some none)
    (z_dict : PySem.W.nsIn K mainGlobals "dict" = some none)
    (z_set : PySem.W.nsIn K mainGlobals "set" = some none)
    (gM : PySem.W.nsIn K mainGlobals "MOST_NUMBERS" = some (some (.int 9 tM)))
    (gS : PySem.W.nsIn K mainGlobals "SIGNS" = some (some (.ref cS)))
    (lS : K.lookup cS = some ⟨.type "tuple", odS, .seq #[.str "+" tS1, .str "-" tS2, .str "*" tS3] nS, slS⟩)
    (n_PutError : PySem.W.nsIn K mainGlobals "PutError" = some (some (.ref aP)))
    (n_NoRow : PySem.W.nsIn K mainGlobals "NoRow" = some (some (.ref aR)))
    (n_NoSigns : PySem.W.nsIn K mainGlobals "NoSigns" = some (some (.ref aS)))
    (n_NoWay : PySem.W.nsIn K mainGlobals "NoWay" = some (some (.ref aW)))
    (n_NoNumber : PySem.W.nsIn K mainGlobals "NoNumber" = some (some (.ref aN)))
    (n_NoPlace : PySem.W.nsIn K mainGlobals "NoPlace" = some (some (.ref aL)))
    (n_NoFit : PySem.W.nsIn K mainGlobals "NoFit" = some (some (.ref aF)))
    (n_NoForm : PySem.W.nsIn K mainGlobals "NoForm" = some (some (.ref aO)))
    (n_NoAsk : PySem.W.nsIn K mainGlobals "NoAsk" = some (some (.ref aA)))
    (n_NoHolds : PySem.W.nsIn K mainGlobals "NoHolds" = some (some (.ref aH)))
    (n_NoText : PySem.W.nsIn K mainGlobals "NoText" = some (some (.ref aT)))
    (n_TooMany : PySem.W.nsIn K mainGlobals "TooMany" = some (some (.ref aM)))
    (z_ValueError : PySem.W.nsIn K mainGlobals "ValueError" = some none)
    (l_PutError : K.lookup aP = some (excClassObj aPnm aPq aP aPN aPbs vMro aPhd aPsn aPsub aPab aPcol aPdd aPk0 aPk1 aPk2 aPk3 aPk5 "ValueError.__new__"))
    (s_PutError : K.lookup aPN = some ⟨aPc, aPod, .dict aPes aPn, aPsl⟩)
    (t_PutError : keysB aPes = true)
    (i_PutError : nsFind aPes "__init__" = none)
    (l_NoWay : K.lookup aW = some (excClassObj aWnm aWq aW aWN aWbs (.ref aP :: vMro) aWhd aWsn aWsub aWab aWcol aWdd aWk0 aWk1 aWk2 aWk3 aWk5 "ValueError.__new__"))
    (s_NoWay : K.lookup aWN = some ⟨aWc, aWod, .dict aWes aWn, aWsl⟩)
    (t_NoWay : keysB aWes = true)
    (i_NoWay : nsFind aWes "__init__" = none)
    (l_NoNumber : K.lookup aN = some (excClassObj aNnm aNq aN aNN aNbs (.ref aP :: vMro) aNhd aNsn aNsub aNab aNcol aNdd aNk0 aNk1 aNk2 aNk3 aNk5 "ValueError.__new__"))
    (s_NoNumber : K.lookup aNN = some ⟨aNc, aNod, .dict aNes aNn, aNsl⟩)
    (t_NoNumber : keysB aNes = true)
    (i_NoNumber : nsFind aNes "__init__" = none)
    (l_NoPlace : K.lookup aL = some (excClassObj aLnm aLq aL aLN aLbs (.ref aP :: vMro) aLhd aLsn aLsub aLab aLcol aLdd aLk0 aLk1 aLk2 aLk3 aLk5 "ValueError.__new__"))
    (s_NoPlace : K.lookup aLN = some ⟨aLc, aLod, .dict aLes aLn, aLsl⟩)
    (t_NoPlace : keysB aLes = true)
    (i_NoPlace : nsFind aLes "__init__" = none)
    (f1_NoWay : PySem.W.findIn K (.ref aW) "__getattribute__" = some (some (.builtin "BaseException.__getattribute__")))
    (f2_NoWay : PySem.W.findIn K (.ref aW) "__getattr__" = some none)
    (f3_NoWay : PySem.W.findIn K (.ref aW) "__class__" = some (some (.builtin "object.__class__")))
    (f4_NoWay : PySem.W.subIn K (.ref aW) (.type "BaseException") = some true)
    (f5_NoWay : PySem.W.subIn K (.ref aW) (.type "object") = some true)
    (f6_NoWay : PySem.W.subIn K (.ref aW) (.type "ValueError") = some true)
    (f1_NoNumber : PySem.W.findIn K (.ref aN) "__getattribute__" = some (some (.builtin "BaseException.__getattribute__")))
    (f2_NoNumber : PySem.W.findIn K (.ref aN) "__getattr__" = some none)
    (f3_NoNumber : PySem.W.findIn K (.ref aN) "__class__" = some (some (.builtin "object.__class__")))
    (f4_NoNumber : PySem.W.subIn K (.ref aN) (.type "BaseException") = some true)
    (f5_NoNumber : PySem.W.subIn K (.ref aN) (.type "object") = some true)
    (f6_NoNumber : PySem.W.subIn K (.ref aN) (.type "ValueError") = some true)
    (f1_NoPlace : PySem.W.findIn K (.ref aL) "__getattribute__" = some (some (.builtin "BaseException.__getattribute__")))
    (f2_NoPlace : PySem.W.findIn K (.ref aL) "__getattr__" = some none)
    (f3_NoPlace : PySem.W.findIn K (.ref aL) "__class__" = some (some (.builtin "object.__class__")))
    (f4_NoPlace : PySem.W.subIn K (.ref aL) (.type "BaseException") = some true)
    (f5_NoPlace : PySem.W.subIn K (.ref aL) (.type "object") = some true)
    (f6_NoPlace : PySem.W.subIn K (.ref aL) (.type "ValueError") = some true)
    (c_NoRow : PySem.W.clsIn K aR = some aRcd)
    (y_NoRow : PySem.W.typeIn K (.ref aR) = some (.type "type"))
    (c_NoSigns : PySem.W.clsIn K aS = some aScd)
    (y_NoSigns : PySem.W.typeIn K (.ref aS) = some (.type "type"))
    (c_NoWay : PySem.W.clsIn K aW = some aWcd)
    (y_NoWay : PySem.W.typeIn K (.ref aW) = some (.type "type"))
    (c_NoNumber : PySem.W.clsIn K aN = some aNcd)
    (y_NoNumber : PySem.W.typeIn K (.ref aN) = some (.type "type"))
    (c_NoPlace : PySem.W.clsIn K aL = some aLcd)
    (y_NoPlace : PySem.W.typeIn K (.ref aL) = some (.type "type"))
    (c_NoFit : PySem.W.clsIn K aF = some aFcd)
    (y_NoFit : PySem.W.typeIn K (.ref aF) = some (.type "type"))
    (c_NoForm : PySem.W.clsIn K aO = some aOcd)
    (y_NoForm : PySem.W.typeIn K (.ref aO) = some (.type "type"))
    (c_NoAsk : PySem.W.clsIn K aA = some aAcd)
    (y_NoAsk : PySem.W.typeIn K (.ref aA) = some (.type "type"))
    (c_NoHolds : PySem.W.clsIn K aH = some aHcd)
    (y_NoHolds : PySem.W.typeIn K (.ref aH) = some (.type "type"))
    (c_NoText : PySem.W.clsIn K aT = some aTcd)
    (y_NoText : PySem.W.typeIn K (.ref aT) = some (.type "type"))
    (c_TooMany : PySem.W.clsIn K aM = some aMcd)
    (y_TooMany : PySem.W.typeIn K (.ref aM) = some (.type "type"))
    (u_NoWay_NoRow : PySem.W.subIn K (.ref aW) (.ref aR) = some false)
    (d_NoWay_NoRow : (Value.ref aW == Value.ref aR) = false)
    (u_NoWay_NoSigns : PySem.W.subIn K (.ref aW) (.ref aS) = some false)
    (d_NoWay_NoSigns : (Value.ref aW == Value.ref aS) = false)
    (u_NoWay_NoNumber : PySem.W.subIn K (.ref aW) (.ref aN) = some false)
    (d_NoWay_NoNumber : (Value.ref aW == Value.ref aN) = false)
    (u_NoWay_NoPlace : PySem.W.subIn K (.ref aW) (.ref aL) = some false)
    (d_NoWay_NoPlace : (Value.ref aW == Value.ref aL) = false)
    (u_NoWay_NoFit : PySem.W.subIn K (.ref aW) (.ref aF) = some false)
    (d_NoWay_NoFit : (Value.ref aW == Value.ref aF) = false)
    (u_NoWay_NoForm : PySem.W.subIn K (.ref aW) (.ref aO) = some false)
    (d_NoWay_NoForm : (Value.ref aW == Value.ref aO) = false)
    (u_NoWay_NoAsk : PySem.W.subIn K (.ref aW) (.ref aA) = some false)
    (d_NoWay_NoAsk : (Value.ref aW == Value.ref aA) = false)
    (u_NoWay_NoHolds : PySem.W.subIn K (.ref aW) (.ref aH) = some false)
    (d_NoWay_NoHolds : (Value.ref aW == Value.ref aH) = false)
    (u_NoWay_NoText : PySem.W.subIn K (.ref aW) (.ref aT) = some false)
    (d_NoWay_NoText : (Value.ref aW == Value.ref aT) = false)
    (u_NoWay_TooMany : PySem.W.subIn K (.ref aW) (.ref aM) = some false)
    (d_NoWay_TooMany : (Value.ref aW == Value.ref aM) = false)
    (u_NoNumber_NoRow : PySem.W.subIn K (.ref aN) (.ref aR) = some false)
    (d_NoNumber_NoRow : (Value.ref aN == Value.ref aR) = false)
    (u_NoNumber_NoSigns : PySem.W.subIn K (.ref aN) (.ref aS) = some false)
    (d_NoNumber_NoSigns : (Value.ref aN == Value.ref aS) = false)
    (u_NoNumber_NoWay : PySem.W.subIn K (.ref aN) (.ref aW) = some false)
    (d_NoNumber_NoWay : (Value.ref aN == Value.ref aW) = false)
    (u_NoNumber_NoPlace : PySem.W.subIn K (.ref aN) (.ref aL) = some false)
    (d_NoNumber_NoPlace : (Value.ref aN == Value.ref aL) = false)
    (u_NoNumber_NoFit : PySem.W.subIn K (.ref aN) (.ref aF) = some false)
    (d_NoNumber_NoFit : (Value.ref aN == Value.ref aF) = false)
    (u_NoNumber_NoForm : PySem.W.subIn K (.ref aN) (.ref aO) = some false)
    (d_NoNumber_NoForm : (Value.ref aN == Value.ref aO) = false)
    (u_NoNumber_NoAsk : PySem.W.subIn K (.ref aN) (.ref aA) = some false)
    (d_NoNumber_NoAsk : (Value.ref aN == Value.ref aA) = false)
    (u_NoNumber_NoHolds : PySem.W.subIn K (.ref aN) (.ref aH) = some false)
    (d_NoNumber_NoHolds : (Value.ref aN == Value.ref aH) = false)
    (u_NoNumber_NoText : PySem.W.subIn K (.ref aN) (.ref aT) = some false)
    (d_NoNumber_NoText : (Value.ref aN == Value.ref aT) = false)
    (u_NoNumber_TooMany : PySem.W.subIn K (.ref aN) (.ref aM) = some false)
    (d_NoNumber_TooMany : (Value.ref aN == Value.ref aM) = false)
    (u_NoPlace_NoRow : PySem.W.subIn K (.ref aL) (.ref aR) = some false)
    (d_NoPlace_NoRow : (Value.ref aL == Value.ref aR) = false)
    (u_NoPlace_NoSigns : PySem.W.subIn K (.ref aL) (.ref aS) = some false)
    (d_NoPlace_NoSigns : (Value.ref aL == Value.ref aS) = false)
    (u_NoPlace_NoWay : PySem.W.subIn K (.ref aL) (.ref aW) = some false)
    (d_NoPlace_NoWay : (Value.ref aL == Value.ref aW) = false)
    (u_NoPlace_NoNumber : PySem.W.subIn K (.ref aL) (.ref aN) = some false)
    (d_NoPlace_NoNumber : (Value.ref aL == Value.ref aN) = false)
    (u_NoPlace_NoFit : PySem.W.subIn K (.ref aL) (.ref aF) = some false)
    (d_NoPlace_NoFit : (Value.ref aL == Value.ref aF) = false)
    (u_NoPlace_NoForm : PySem.W.subIn K (.ref aL) (.ref aO) = some false)
    (d_NoPlace_NoForm : (Value.ref aL == Value.ref aO) = false)
    (u_NoPlace_NoAsk : PySem.W.subIn K (.ref aL) (.ref aA) = some false)
    (d_NoPlace_NoAsk : (Value.ref aL == Value.ref aA) = false)
    (u_NoPlace_NoHolds : PySem.W.subIn K (.ref aL) (.ref aH) = some false)
    (d_NoPlace_NoHolds : (Value.ref aL == Value.ref aH) = false)
    (u_NoPlace_NoText : PySem.W.subIn K (.ref aL) (.ref aT) = some false)
    (d_NoPlace_NoText : (Value.ref aL == Value.ref aT) = false)
    (u_NoPlace_TooMany : PySem.W.subIn K (.ref aL) (.ref aM) = some false)
    (d_NoPlace_TooMany : (Value.ref aL == Value.ref aM) = false) :
    ∃ fd : FuncData, (∀ (s : Shared) (v : Value), BindsTo s fd ⟨[v], []⟩ [("script", v)]) ∧ ∀ base : Heap, K.In base → base.Ns mainGlobals mg → FnOk l.prog w K mg base CX0 46 fa fd ["script"] (spLaw K) := by
  have e := hfa.symm.trans (PySem.W.mg_of X G a30)
  cases e
  have F_is_whole := fun_mk (st := s_is_whole) l0 c0 k0
  have b_is_whole := F_is_whole.binds (ps := ["thing"]) fun _ _ _ _ _ _ us hl => match us, hl with | [_], _ => rfl
  have m_is_whole := PySem.W.mg_of X G a0
  have F_is_sign := fun_mk (st := s_is_sign) l1 c1 k1
  have b_is_sign := F_is_sign.binds (ps := ["thing"]) fun _ _ _ _ _ _ us hl => match us, hl with | [_], _ => rfl
  have m_is_sign := PySem.W.mg_of X G a1
  have F_is_way := fun_mk (st := s_is_way) l2 c2 k2
  have b_is_way := F_is_way.binds (ps := ["thing"]) fun _ _ _ _ _ _ us hl => match us, hl with | [_], _ => rfl
  have m_is_way := PySem.W.mg_of X G a2
  have F_need_way := fun_mk (st := s_need_way) l3 c3 k3
  have b_need_way := F_need_way.binds (ps := ["thing"]) fun _ _ _ _ _ _ us hl => match us, hl with | [_], _ => rfl
  have m_need_way := PySem.W.mg_of X G a3
  have F_need_whole := fun_mk (st := s_need_whole) l4 c4 k4
  have b_need_whole := F_need_whole.binds (ps := ["thing"]) fun _ _ _ _ _ _ us hl => match us, hl with | [_], _ => rfl
  have m_need_whole := PySem.W.mg_of X G a4
  have F_list_numbers := fun_mk (st := s_list_numbers) l5 c5 k5
  have b_list_numbers := F_list_numbers.binds (ps := ["way"]) fun _ _ _ _ _ _ us hl => match us, hl with | [_], _ => rfl
  have m_list_numbers := PySem.W.mg_of X G a5
  have F_worth_of := fun_mk (st := s_worth_of) l6 c6 k6
  have b_worth_of := F_worth_of.binds (ps := ["way"]) fun _ _ _ _ _ _ us hl => match us, hl with | [_], _ => rfl
  have m_worth_of := PySem.W.mg_of X G a6
  have F_part_worths := fun_mk (st := s_part_worths) l7 c7 k7
  have b_part_worths := F_part_worths.binds (ps := ["way"]) fun _ _ _ _ _ _ us hl => match us, hl with | [_], _ => rfl
  have m_part_worths := PySem.W.mg_of X G a7
  have F_hangs_by := fun_mk (st := s_hangs_by) l8 c8 k8
  have b_hangs_by := F_hangs_by.binds (ps := ["way", "place"]) fun _ _ _ _ _ _ us hl => match us, hl with | [_, _], _ => rfl
  have m_hangs_by := PySem.W.mg_of X G a8
  have F_with_number := fun_mk (st := s_with_number) l9 c9 k9
  have b_with_number := F_with_number.binds (ps := ["way", "place", "number"]) fun _ _ _ _ _ _ us hl => match us, hl with | [_, _, _], _ => rfl
  have m_with_number := PySem.W.mg_of X G a9
  have F_need_place := fun_mk (st := s_need_place) l10 c10 k10
  have b_need_place := F_need_place.binds (ps := ["way", "thing"]) fun _ _ _ _ _ _ us hl => match us, hl with | [_, _], _ => rfl
  have m_need_place := PySem.W.mg_of X G a10
  have F_put_sign := fun_mk (st := s_put_sign) l11 c11 k11
  have b_put_sign := F_put_sign.binds (ps := ["left", "sign", "right"]) fun _ _ _ _ _ _ us hl => match us, hl with | [_, _, _], _ => rfl
  have m_put_sign := PySem.W.mg_of X G a11
  have F_find_worth := fun_mk (st := s_find_worth) l12 c12 k12
  have b_find_worth := F_find_worth.binds (ps := ["way"]) fun _ _ _ _ _ _ us hl => match us, hl with | [_], _ => rfl
  have m_find_worth := PySem.W.mg_of X G a12
  have F_worths_by_stretch := fun_mk (st := s_worths_by_stretch) l13 c13 k13
  have b_worths_by_stretch := F_worths_by_stretch.binds (ps := ["way", "first"]) fun _ _ _ _ _ _ us hl => match us, hl with | [_, _], _ => rfl
  have m_worths_by_stretch := PySem.W.mg_of X G a13
  have F_times_and_plus := fun_mk (st := s_times_and_plus) l14 c14 k14
  have b_times_and_plus := F_times_and_plus.binds (ps := ["way", "place"]) fun _ _ _ _ _ _ us hl => match us, hl with | [_, _], _ => rfl
  have m_times_and_plus := PySem.W.mg_of X G a14
  have F_put_number := fun_mk (st := s_put_number) l15 c15 k15
  have b_put_number := F_put_number.binds (ps := ["way", "place", "number"]) fun _ _ _ _ _ _ us hl => match us, hl with | [_, _, _], _ => rfl
  have m_put_number := PySem.W.mg_of X G a15
  have F__law_mixed := fun_mk (st := s__law_mixed) l16 c16 k16
  have b__law_mixed := F__law_mixed.binds (ps := ["cell", "k"]) fun _ _ _ _ _ _ us hl => match us, hl with | [_, _], _ => rfl
  have m__law_mixed := PySem.W.mg_of X G a16
  have F__law_well := fun_mk (st := s__law_well) l17 c17 k17
  have b__law_well := F__law_well.binds (ps := ["cell"]) fun _ _ _ _ _ _ us hl => match us, hl with | [_], _ => rfl
  have m__law_well := PySem.W.mg_of X G a17
  have F__law_draw := fun_mk (st := s__law_draw) l18 c18 k18
  have b__law_draw := F__law_draw.binds (ps := ["well", "many"]) fun _ _ _ _ _ _ us hl => match us, hl with | [_, _], _ => rfl
  have m__law_draw := PySem.W.mg_of X G a18
  have F__law_number := fun_mk (st := s__law_number) l19 c19 k19
  have b__law_number := F__law_number.binds (ps := ["well"]) fun _ _ _ _ _ _ us hl => match us, hl with | [_], _ => rfl
  have m__law_number := PySem.W.mg_of X G a19
  have F__law_row := fun_mk (st := s__law_row) l20 c20 k20
  have b__law_row := F__law_row.binds (ps := ["well", "many"]) fun _ _ _ _ _ _ us hl => match us, hl with | [_, _], _ => rfl
  have m__law_row := PySem.W.mg_of X G a20
  have F__law_signs := fun_mk (st := s__law_signs) l21 c21 k21
  have b__law_signs := F__law_signs.binds (ps := ["well"]) fun _ _ _ _ _ _ us hl => match us, hl with | [_], _ => rfl
  have m__law_signs := PySem.W.mg_of X G a21
  have F__law_way := fun_mk (st := s__law_way) l22 c22 k22
  have b__law_way := F__law_way.binds (ps := ["well", "row", "signs"]) fun _ _ _ _ _ _ us hl => match us, hl with | [_, _, _], _ => rfl
  have m__law_way := PySem.W.mg_of X G a22
  have F__law_odd := fun_mk (st := s__law_odd) l23 c23 k23
  have b__law_odd := F__law_odd.binds (ps := ["well"]) fun _ _ _ _ _ _ us hl => match us, hl with | [_], _ => rfl
  have m__law_odd := PySem.W.mg_of X G a23
  have F__law_bad_way := fun_mk (st := s__law_bad_way) l24 c24 k24
  have b__law_bad_way := F__law_bad_way.binds (ps := ["well", "way"]) fun _ _ _ _ _ _ us hl => match us, hl with | [_, _], _ => rfl
  have m__law_bad_way := PySem.W.mg_of X G a24
  have F__law_kind := fun_mk (st := s__law_kind) l25 c25 k25
  have b__law_kind := F__law_kind.binds (ps := ["caught"]) fun _ _ _ _ _ _ us hl => match us, hl with | [_], _ => rfl
  have m__law_kind := PySem.W.mg_of X G a25
  have F__law_whole := fun_mk (st := s__law_whole) l26 c26 k26
  have b__law_whole := F__law_whole.binds (ps := ["thing"]) fun _ _ _ _ _ _ us hl => match us, hl with | [_], _ => rfl
  have m__law_whole := PySem.W.mg_of X G a26
  have F__law_many := fun_mk (st := s__law_many) l27 c27 k27
  have b__law_many := F__law_many.binds (ps := ["thing"]) fun _ _ _ _ _ _ us hl => match us, hl with | [_], _ => rfl
  have m__law_many := PySem.W.mg_of X G a27
  have F__law_told := fun_mk (st := s__law_told) l28 c28 k28
  have b__law_told := F__law_told.binds (ps := ["door", "way", "place", "number"]) fun _ _ _ _ _ _ us hl => match us, hl with | [_, _, _, _], _ => rfl
  have m__law_told := PySem.W.mg_of X G a28
  have F__law_right := fun_mk (st := s__law_right) l29 c29 k29
  have b__law_right := F__law_right.binds (ps := ["way", "place", "number"]) fun _ _ _ _ _ _ us hl => match us, hl with | [_, _, _], _ => rfl
  have m__law_right := PySem.W.mg_of X G a29
  have F_law := fun_mk (st := s_law) l30 c30 k30
  have B : Bu K mg := ⟨PySem.W.mg_none_of X G z_len, PySem.W.mg_none_of X G z_isinstance, PySem.W.mg_none_of X G z_int, PySem.W.mg_none_of X G z_bool, PySem.W.mg_none_of X G z_str, PySem.W.mg_none_of X G z_tuple, PySem.W.mg_none_of X G z_list, PySem.W.mg_none_of X G z_sorted, PySem.W.mg_none_of X G z_range, PySem.W.mg_none_of X G z_repr, PySem.W.mg_none_of X G z_enumerate, PySem.W.mg_none_of X G z_sum, PySem.W.mg_none_of X G z_all, PySem.W.mg_none_of X G z_min, PySem.W.mg_none_of X G z_max, PySem.W.mg_none_of X G z_abs, PySem.W.mg_none_of X G z_divmod, PySem.W.mg_none_of X G z_dict, PySem.W.mg_none_of X G z_set⟩
  have B' : Co K mg tM cS := ⟨PySem.W.mg_of X G gM, PySem.W.mg_of X G gS, fun H => .inr ⟨_, _, _, lS, rfl, rfl, by show 3 ≤ sizeLine; decide, .cons ⟨_, rfl⟩ (.cons ⟨_, rfl⟩ (.cons ⟨_, rfl⟩ .nil))⟩⟩
  have XC : Xc K mg aP aW aN aL := ⟨PySem.W.mg_of X G n_PutError, PySem.W.mg_of X G n_NoWay, PySem.W.mg_of X G n_NoNumber, PySem.W.mg_of X G n_NoPlace, ec_sub l_NoWay s_NoWay t_NoWay i_NoWay l_PutError s_PutError t_PutError i_PutError, ec_sub l_NoNumber s_NoNumber t_NoNumber i_NoNumber l_PutError s_PutError t_PutError i_PutError, ec_sub l_NoPlace s_NoPlace t_NoPlace i_NoPlace l_PutError s_PutError t_PutError i_PutError, und_sub l_NoWay l_PutError, und_sub l_NoNumber l_PutError, und_sub l_NoPlace l_PutError⟩
  have XK : Xk mg aR aS aW aN aL aF aO aA aH aT aM := ⟨PySem.W.mg_of X G n_NoRow, PySem.W.mg_of X G n_NoSigns, PySem.W.mg_of X G n_NoWay, PySem.W.mg_of X G n_NoNumber, PySem.W.mg_of X G n_NoPlace, PySem.W.mg_of X G n_NoFit, PySem.W.mg_of X G n_NoForm, PySem.W.mg_of X G n_NoAsk, PySem.W.mg_of X G n_NoHolds, PySem.W.mg_of X G n_NoText, PySem.W.mg_of X G n_TooMany, PySem.W.mg_none_of X G z_ValueError⟩
  have D2 : Kd K aR aS aW aN aL aF aO aA aH aT aM aW 2 := ⟨exc_of l_NoWay f1_NoWay f2_NoWay f3_NoWay f4_NoWay f5_NoWay, by decide, (kit_ref d_NoWay_NoRow c_NoRow y_NoRow u_NoWay_NoRow), (kit_ref d_NoWay_NoSigns c_NoSigns y_NoSigns u_NoWay_NoSigns), kit_self, (kit_ref d_NoWay_NoNumber c_NoNumber y_NoNumber u_NoWay_NoNumber), (kit_ref d_NoWay_NoPlace c_NoPlace y_NoPlace u_NoWay_NoPlace), (kit_ref d_NoWay_NoFit c_NoFit y_NoFit u_NoWay_NoFit), (kit_ref d_NoWay_NoForm c_NoForm y_NoForm u_NoWay_NoForm), kit_any4 (kit_ref d_NoWay_NoAsk c_NoAsk y_NoAsk u_NoWay_NoAsk) (kit_ref d_NoWay_NoHolds c_NoHolds y_NoHolds u_NoWay_NoHolds) (kit_ref d_NoWay_NoText c_NoText y_NoText u_NoWay_NoText) (kit_ref d_NoWay_TooMany c_TooMany y_TooMany u_NoWay_TooMany), kit_val f6_NoWay⟩
  have D3 : Kd K aR aS aW aN aL aF aO aA aH aT aM aN 3 := ⟨exc_of l_NoNumber f1_NoNumber f2_NoNumber f3_NoNumber f4_NoNumber f5_NoNumber, by decide, (kit_ref d_NoNumber_NoRow c_NoRow y_NoRow u_NoNumber_NoRow), (kit_ref d_NoNumber_NoSigns c_NoSigns y_NoSigns u_NoNumber_NoSigns), (kit_ref d_NoNumber_NoWay c_NoWay y_NoWay u_NoNumber_NoWay), kit_self, (kit_ref d_NoNumber_NoPlace c_NoPlace y_NoPlace u_NoNumber_NoPlace), (kit_ref d_NoNumber_NoFit c_NoFit y_NoFit u_NoNumber_NoFit), (kit_ref d_NoNumber_NoForm c_NoForm y_NoForm u_NoNumber_NoForm), kit_any4 (kit_ref d_NoNumber_NoAsk c_NoAsk y_NoAsk u_NoNumber_NoAsk) (kit_ref d_NoNumber_NoHolds c_NoHolds y_NoHolds u_NoNumber_NoHolds) (kit_ref d_NoNumber_NoText c_NoText y_NoText u_NoNumber_NoText) (kit_ref d_NoNumber_TooMany c_TooMany y_TooMany u_NoNumber_TooMany), kit_val f6_NoNumber⟩
  have D4 : Kd K aR aS aW aN aL aF aO aA aH aT aM aL 4 := ⟨exc_of l_NoPlace f1_NoPlace f2_NoPlace f3_NoPlace f4_NoPlace f5_NoPlace, by decide, (kit_ref d_NoPlace_NoRow c_NoRow y_NoRow u_NoPlace_NoRow), (kit_ref d_NoPlace_NoSigns c_NoSigns y_NoSigns u_NoPlace_NoSigns), (kit_ref d_NoPlace_NoWay c_NoWay y_NoWay u_NoPlace_NoWay), (kit_ref d_NoPlace_NoNumber c_NoNumber y_NoNumber u_NoPlace_NoNumber), kit_self, (kit_ref d_NoPlace_NoFit c_NoFit y_NoFit u_NoPlace_NoFit), (kit_ref d_NoPlace_NoForm c_NoForm y_NoForm u_NoPlace_NoForm), kit_any4 (kit_ref d_NoPlace_NoAsk c_NoAsk y_NoAsk u_NoPlace_NoAsk) (kit_ref d_NoPlace_NoHolds c_NoHolds y_NoHolds u_NoPlace_NoHolds) (kit_ref d_NoPlace_NoText c_NoText y_NoText u_NoPlace_NoText) (kit_ref d_NoPlace_TooMany c_TooMany y_TooMany u_NoPlace_TooMany), kit_val f6_NoPlace⟩
  refine ⟨PySem.W.fnOf "law" "law" (defArgs s_law) (defBody s_law) (defScope s_law) .none kV30 dc30 pm30 an30 cd30 ct30, fun s v => .of_eq rfl, fun base _ _ => ?_⟩
  have C_is_whole : Cal l.prog w K mg base "is_whole" 1 ["thing"] (spWhole K) := ⟨_, _, ok_is_whole F_is_whole B, b_is_whole, F_is_whole.kp, m_is_whole⟩
  have C_is_sign_spSign_1 : Cal l.prog w K mg base "is_sign" 1 ["thing"] spSign := ⟨_, _, ok_is_sign F_is_sign B B', b_is_sign, F_is_sign.kp, m_is_sign⟩
  have C_list_numbers : Cal l.prog w K mg base "list_numbers" 21 ["way"] (spNums 20) := ⟨_, _, ok_list_numbers F_list_numbers b_list_numbers m_list_numbers C_is_whole 20, b_list_numbers, F_list_numbers.kp, m_list_numbers⟩
  have C__law_mixed : Cal l.prog w K mg base "_law_mixed" 1 ["cell", "k"] spMixed := ⟨_, _, ok_mixed F__law_mixed, b__law_mixed, F__law_mixed.kp, m__law_mixed⟩
  have C__law_well : Cal l.prog w K mg base "_law_well" 1 ["cell"] spWell := ⟨_, _, ok_well F__law_well B, b__law_well, F__law_well.kp, m__law_well⟩
  have C__law_draw : Cal l.prog w K mg base "_law_draw" 2 ["well", "many"] spDraw := ⟨_, _, ok_draw F__law_draw C__law_mixed, b__law_draw, F__law_draw.kp, m__law_draw⟩
  have C__law_number : Cal l.prog w K mg base "_law_number" 3 ["well"] spNumber := ⟨_, _, ok_number F__law_number C__law_draw, b__law_number, F__law_number.kp, m__law_number⟩
  have C__law_row : Cal l.prog w K mg base "_law_row" 4 ["well", "many"] spRow := ⟨_, _, ok_row F__law_row B C__law_draw C__law_number, b__law_row, F__law_row.kp, m__law_row⟩
  have C__law_signs : Cal l.prog w K mg base "_law_signs" 3 ["well"] spLawSigns := ⟨_, _, ok_law_signs F__law_signs C__law_draw, b__law_signs, F__law_signs.kp, m__law_signs⟩
  have C__law_way : Cal l.prog w K mg base "_law_way" 22 ["well", "row", "signs"] (spWay 20) := ⟨_, _, ok_way F__law_way b__law_way m__law_way B C__law_draw 20, b__law_way, F__law_way.kp, m__law_way⟩
  have C_is_sign_spSignD_1 : Cal l.prog w K mg base "is_sign" 1 ["thing"] spSignD := ⟨_, _, ok_is_signD F_is_sign B B', b_is_sign, F_is_sign.kp, m_is_sign⟩
  have C_is_way : Cal l.prog w K mg base "is_way" 2 ["thing"] spIsWayD := ⟨_, _, ok_is_wayD F_is_way B B' C_is_whole C_is_sign_spSignD_1, b_is_way, F_is_way.kp, m_is_way⟩
  have C__law_odd : Cal l.prog w K mg base "_law_odd" 3 ["well"] spOdd := ⟨_, _, ok_odd F__law_odd C__law_draw, b__law_odd, F__law_odd.kp, m__law_odd⟩
  have C__law_bad_way : Cal l.prog w K mg base "_law_bad_way" 13 ["well", "way"] (spBad 10) := ⟨_, _, ok_bad F__law_bad_way b__law_bad_way m__law_bad_way B C__law_draw C__law_odd 10, b__law_bad_way, F__law_bad_way.kp, m__law_bad_way⟩
  have C_put_sign : Cal l.prog w K mg base "put_sign" 1 ["left", "sign", "right"] spPutSign := ⟨_, _, ok_put_sign F_put_sign, b_put_sign, F_put_sign.kp, m_put_sign⟩
  have C_find_worth : Cal l.prog w K mg base "find_worth" 21 ["way"] (spWorth 20) := ⟨_, _, ok_find_worth F_find_worth b_find_worth m_find_worth C_is_whole C_put_sign 20, b_find_worth, F_find_worth.kp, m_find_worth⟩
  have C_times_and_plus : Cal l.prog w K mg base "times_and_plus" 42 ["way", "place"] (spTp 20) := ⟨_, _, ok_tp F_times_and_plus b_times_and_plus m_times_and_plus B C_is_whole C_put_sign C_list_numbers 20, b_times_and_plus, F_times_and_plus.kp, m_times_and_plus⟩
  have C_put_number : Cal l.prog w K mg base "put_number" 42 ["way", "place", "number"] (spPutN 20) := ⟨_, _, ok_put_number F_put_number b_put_number m_put_number B C_is_whole C_list_numbers 20, b_put_number, F_put_number.kp, m_put_number⟩
  have C_worths_by_stretch : Cal l.prog w K mg base "worths_by_stretch" 42 ["way", "first"] (spWbs 20) := ⟨_, _, ok_wbs F_worths_by_stretch b_worths_by_stretch m_worths_by_stretch B C_is_whole C_list_numbers C_put_sign 20, b_worths_by_stretch, F_worths_by_stretch.kp, m_worths_by_stretch⟩
  have C_need_whole : Cal1 l.prog w K mg base "need_whole" 2 ["thing"] (spNeedWhole1 K aN) := ⟨_, _, ok_need_whole1 F_need_whole XC C_is_whole, b_need_whole, F_need_whole.kp, m_need_whole⟩
  have C_need_way : Cal1 l.prog w K mg base "need_way" 3 ["thing"] (spNeedWay1 aW) := ⟨_, _, ok_need_way1 F_need_way XC C_is_way, b_need_way, F_need_way.kp, m_need_way⟩
  have V_worth_of : CalF l.prog w K mg base f6 22 ["way"] (spWorthOf1 aW) := ⟨_, ok_worth_of1 F_worth_of C_need_way C_find_worth, b_worth_of, F_worth_of.kp⟩
  have V_part_worths : CalF l.prog w K mg base f7 43 ["way"] (spPartWorths1 aW) := ⟨_, ok_part_worths1 F_part_worths C_need_way C_worths_by_stretch, b_part_worths, F_part_worths.kp⟩
  have C_need_place : Cal1 l.prog w K mg base "need_place" 22 ["way", "thing"] (spNeedPlace1 aL) := ⟨_, _, ok_need_place1 F_need_place B XC C_is_whole C_list_numbers, b_need_place, F_need_place.kp, m_need_place⟩
  have C_hangs_by : Cal1 l.prog w K mg base "hangs_by" 43 ["way", "place"] (spHangs1 aW aL) := ⟨_, _, ok_hangs_by1 F_hangs_by C_need_way C_need_place C_times_and_plus, b_hangs_by, F_hangs_by.kp, m_hangs_by⟩
  have C_with_number : Cal1 l.prog w K mg base "with_number" 43 ["way", "place", "number"] (spWith1 aW aN aL) := ⟨_, _, ok_with_number1 F_with_number C_need_way C_need_place C_need_whole C_put_number, b_with_number, F_with_number.kp, m_with_number⟩
  have C__law_kind : Cal l.prog w K mg base "_law_kind" 1 ["caught"] (spKind K aR aS aW aN aL aF aO aA aH aT aM) := ⟨_, _, ok_kind F__law_kind B XK, b__law_kind, F__law_kind.kp, m__law_kind⟩
  have C__law_whole : Cal l.prog w K mg base "_law_whole" 1 ["thing"] spLWhole := ⟨_, _, ok_law_whole F__law_whole B, b__law_whole, F__law_whole.kp, m__law_whole⟩
  have C__law_many : Cal l.prog w K mg base "_law_many" 2 ["thing"] spMany := ⟨_, _, ok_law_many F__law_many B C__law_whole, b__law_many, F__law_many.kp, m__law_many⟩
  have C__law_told : Cal l.prog w K mg base "_law_told" 44 ["door", "way", "place", "number"] spTold := ⟨_, _, ok_told F__law_told B XC D2 D3 D4 m_worth_of m_part_worths V_worth_of V_part_worths C_hangs_by C_with_number C__law_kind, b__law_told, F__law_told.kp, m__law_told⟩
  have C__law_right : Cal l.prog w K mg base "_law_right" 45 ["way", "place", "number"] spRight1 := ⟨_, _, ok_right F__law_right B C__law_whole C__law_many C__law_told, b__law_right, F__law_right.kp, m__law_right⟩
  exact ok_law F_law B C__law_well C__law_draw C__law_row C__law_signs C__law_way C__law_odd C__law_bad_way C__law_right
theorem walk {l : PySem.W.OpenLaw} {q : Program} {loose : List Str} {XP : (Str → Option Value) → Heap → Prop} {YP : World → Heap → Prop} {d : DefRec} {K : Params → PySem.W.Frag} (hn : l.most = some 63) (hdf : d.params.defaults = []) (hi : PyProof.Rows.importsNone q = true)
    (hY : ∀ (w : World) (h : Heap), YP w h → (K w.params).In h)
    (F : ∀ (w : World) (mg : Str → Option Value) (fa : Addr) (h : Heap), (K w.params).In h → h.Ns mainGlobals mg → mg d.name = some (.ref fa) →
      ∃ fd : FuncData, (∀ (s : Shared) (u : Value), BindsTo s fd ⟨[u], []⟩ [("script", u)]) ∧ ∀ base : Heap, (K w.params).In base → base.Ns mainGlobals mg → FnOk l.prog w (K w.params) mg base CX0 46 fa fd ["script"] (spLaw (K w.params))) :
    PySem.W.WalkO q loose XP YP l.row.toRowW d [] (fun f vs => PySem.call f vs) :=
  L2.walk_of (n := 63) (k := 46) (x := "script") (CX := fun _ => CX0) (sp := fun w => spLaw (K w.params)) hn (by decide) hdf ⟨rfl, by decide, by decide, rfl⟩ hi hY F (fun _ _ a ns hl _ hS => ⟨a, ns, rfl, hS, hl, fun _ => rfl⟩) fun _ _ _ _ _ z => z
end Put
/- The tactics below would lay a twin of each of these heaps and trees; the twins are not needed, and their proofs would take the compiled text past its limit: so their names are taken. -/
def PySem.W.Fast.tw5888945148156973421 : Nat := 0
def PySem.W.Fast.tw7324652469532764838 : Nat := 0
def PySem.W.Fast.tw16292341961386413164 : Nat := 0
def PySem.W.Fast.tw3825112002565837442 : Nat := 0
def PySem.W.Fast.tw10182178415007425595 : Nat := 0
def PySem.W.Fast.tw1113464204541023301 : Nat := 0
def PySem.W.Fast.tw11806692100634687926 : Nat := 0
def PySem.W.Fast.tw6276518948973014988 : Nat := 0
def PySem.W.Fast.tw353563133050444597 : Nat := 0
def PySem.W.Fast.tw4172827377913499644 : Nat := 0
def PySem.W.Fast.tw17036600816347085576 : Nat := 0
def PySem.W.Fast.tw3870465626873471320 : Nat := 0
def PySem.W.Fast.tw16742381078277823514 : Nat := 0
def PySem.W.Fast.tw13783830033013830350 : Nat := 0
def PySem.W.Fast.tw18197818674565707821 : Nat := 0
open PySem PySem.W PyProof.Rows
set_option maxRecDepth 100000 in
set_option maxHeartbeats 0 in
theorem PySem.Challenge.cw_putsigns_k10_refused_by_worths_holds : PySem.Challenge.rw_putsigns_k10_refused_by_worths.Holds := by
  w_on; o_law; k_head; (case hw => w_witness2)
  k_fill
  refine Put.walk (l := PySem.Challenge.rw_putsigns_k10_refused_by_worths) rfl rfl ?hi (fun w h Y => PySem.W.kIn_of Y) ?F
  case hi => first | rfl | decide +kernel
  case F =>
    intro w mg fa h KX G hmg
    refine' Put.all_mk KX G hmg ?a0 ?l0 ?c0 ?k0 ?a1 ?l1 ?c1 ?k1 ?a2 ?l2 ?c2 ?k2 ?a3 ?l3 ?c3 ?k3 ?a4 ?l4 ?c4 ?k4 ?a5 ?l5 ?c5 ?k5 ?a6 ?l6 ?c6 ?k6 ?a7 ?l7 ?c7 ?k7 ?a8 ?l8 ?c8 ?k8 ?a9 ?l9 ?c9 ?k9 ?a10 ?l10 ?c10 ?k10 ?a11 ?l11 ?c11 ?k11 ?a12 ?l12 ?c12 ?k12 ?a13 ?l13 ?c13 ?k13 ?a14 ?l14 ?c14 ?k14 ?a15 ?l15 ?c15 ?k15 ?a16 ?l16 ?c16 ?k16 ?a17 ?l17 ?c17 ?k17 ?a18 ?l18 ?c18 ?k18 ?a19 ?l19 ?c19 ?k19 ?a20 ?l20 ?c20 ?k20 ?a21 ?l21 ?c21 ?k21 ?a22 ?l22 ?c22 ?k22 ?a23 ?l23 ?c23 ?k23 ?a24 ?l24 ?c24 ?k24 ?a25 ?l25 ?c25 ?k25 ?a26 ?l26 ?c26 ?k26 ?a27 ?l27 ?c27 ?k27 ?a28 ?l28 ?c28 ?k28 ?a29 ?l29 ?c29 ?k29 ?a30 ?l30 ?c30 ?k30 ?z_len ?z_isinstance ?z_int ?z_bool ?z_str ?z_tuple ?z_list ?z_sorted ?z_range ?z_repr ?z_enumerate ?z_sum ?z_all ?z_min ?z_max ?z_abs ?z_divmod ?z_dict ?z_set ?gM ?gS ?lS ?n_PutError ?n_NoRow ?n_NoSigns ?n_NoWay ?n_NoNumber ?n_NoPlace ?n_NoFit ?n_NoForm ?n_NoAsk ?n_NoHolds ?n_NoText ?n_TooMany ?z_ValueError ?l_PutError ?s_PutError ?t_PutError ?i_PutError ?l_NoWay ?s_NoWay ?t_NoWay ?i_NoWay ?l_NoNumber ?s_NoNumber ?t_NoNumber ?i_NoNumber ?l_NoPlace ?s_NoPlace ?t_NoPlace ?i_NoPlace ?f1_NoWay ?f2_NoWay ?f3_NoWay ?f4_NoWay ?f5_NoWay ?f6_NoWay ?f1_NoNumber ?f2_NoNumber ?f3_NoNumber ?f4_NoNumber ?f5_NoNumber ?f6_NoNumber ?f1_NoPlace ?f2_NoPlace ?f3_NoPlace ?f4_NoPlace ?f5_NoPlace ?f6_NoPlace ?c_NoRow ?y_NoRow ?c_NoSigns ?y_NoSigns ?c_NoWay ?y_NoWay ?c_NoNumber ?y_NoNumber ?c_NoPlace ?y_NoPlace ?c_NoFit ?y_NoFit ?c_NoForm ?y_NoForm ?c_NoAsk ?y_NoAsk ?c_NoHolds ?y_NoHolds ?c_NoText ?y_NoText ?c_TooMany ?y_TooMany ?u_NoWay_NoRow ?d_NoWay_NoRow ?u_NoWay_NoSigns ?d_NoWay_NoSigns ?u_NoWay_NoNumber ?d_NoWay_NoNumber ?u_NoWay_NoPlace ?d_NoWay_NoPlace ?u_NoWay_NoFit ?d_NoWay_NoFit ?u_NoWay_NoForm ?d_NoWay_NoForm ?u_NoWay_NoAsk ?d_NoWay_NoAsk ?u_NoWay_NoHolds ?d_NoWay_NoHolds ?u_NoWay_NoText ?d_NoWay_NoText ?u_NoWay_TooMany ?d_NoWay_TooMany ?u_NoNumber_NoRow ?d_NoNumber_NoRow ?u_NoNumber_NoSigns ?d_NoNumber_NoSigns ?u_NoNumber_NoWay ?d_NoNumber_NoWay ?u_NoNumber_NoPlace ?d_NoNumber_NoPlace ?u_NoNumber_NoFit ?d_NoNumber_NoFit ?u_NoNumber_NoForm ?d_NoNumber_NoForm ?u_NoNumber_NoAsk ?d_NoNumber_NoAsk ?u_NoNumber_NoHolds ?d_NoNumber_NoHolds ?u_NoNumber_NoText ?d_NoNumber_NoText ?u_NoNumber_TooMany ?d_NoNumber_TooMany ?u_NoPlace_NoRow ?d_NoPlace_NoRow ?u_NoPlace_NoSigns ?d_NoPlace_NoSigns ?u_NoPlace_NoWay ?d_NoPlace_NoWay ?u_NoPlace_NoNumber ?d_NoPlace_NoNumber ?u_NoPlace_NoFit ?d_NoPlace_NoFit ?u_NoPlace_NoForm ?d_NoPlace_NoForm ?u_NoPlace_NoAsk ?d_NoPlace_NoAsk ?u_NoPlace_NoHolds ?d_NoPlace_NoHolds ?u_NoPlace_NoText ?d_NoPlace_NoText ?u_NoPlace_TooMany ?d_NoPlace_TooMany
    (case a0 => k_is)
    (case l0 => k_is)
    (case c0 => k_is)
    (case k0 => k_is)
    (case a1 => k_is)
    (case l1 => k_is)
    (case c1 => k_is)
    (case k1 => k_is)
    (case a2 => k_is)
    (case l2 => k_is)
    (case c2 => k_is)
    (case k2 => k_is)
    (case a3 => k_is)
    (case l3 => k_is)
    (case c3 => k_is)
    (case k3 => k_is)
    (case a4 => k_is)
    (case l4 => k_is)
    (case c4 => k_is)
    (case k4 => k_is)
    (case a5 => k_is)
    (case l5 => k_is)
    (case c5 => k_is)
    (case k5 => k_is)
    (case a6 => k_is)
    (case l6 => k_is)
    (case c6 => k_is)
    (case k6 => k_is)
    (case a7 => k_is)
    (case l7 => k_is)
    (case c7 => k_is)
    (case k7 => k_is)
    (case a8 => k_is)
    (case l8 => k_is)
    (case c8 => k_is)
    (case k8 => k_is)
    (case a9 => k_is)
    (case l9 => k_is)
    (case c9 => k_is)
    (case k9 => k_is)
    (case a10 => k_is)
    (case l10 => k_is)
    (case c10 => k_is)
    (case k10 => k_is)
    (case a11 => k_is)
    (case l11 => k_is)
    (case c11 => k_is)
    (case k11 => k_is)
    (case a12 => k_is)
    (case l12 => k_is)
    (case c12 => k_is)
    (case k12 => k_is)
    (case a13 => k_is)
    (case l13 => k_is)
    (case c13 => k_is)
    (case k13 => k_is)
    (case a14 => k_is)
    (case l14 => k_is)
    (case c14 => k_is)
    (case k14 => k_is)
    (case a15 => k_is)
    (case l15 => k_is)
    (case c15 => k_is)
    (case k15 => k_is)
    (case a16 => k_is)
    (case l16 => k_is)
    (case c16 => k_is)
    (case k16 => k_is)
    (case a17 => k_is)
    (case l17 => k_is)
    (case c17 => k_is)
    (case k17 => k_is)
    (case a18 => k_is)
    (case l18 => k_is)
    (case c18 => k_is)
    (case k18 => k_is)
    (case a19 => k_is)
    (case l19 => k_is)
    (case c19 => k_is)
    (case k19 => k_is)
    (case a20 => k_is)
    (case l20 => k_is)
    (case c20 => k_is)
    (case k20 => k_is)
    (case a21 => k_is)
    (case l21 => k_is)
    (case c21 => k_is)
    (case k21 => k_is)
    (case a22 => k_is)
    (case l22 => k_is)
    (case c22 => k_is)
    (case k22 => k_is)
    (case a23 => k_is)
    (case l23 => k_is)
    (case c23 => k_is)
    (case k23 => k_is)
    (case a24 => k_is)
    (case l24 => k_is)
    (case c24 => k_is)
    (case k24 => k_is)
    (case a25 => k_is)
    (case l25 => k_is)
    (case c25 => k_is)
    (case k25 => k_is)
    (case a26 => k_is)
    (case l26 => k_is)
    (case c26 => k_is)
    (case k26 => k_is)
    (case a27 => k_is)
    (case l27 => k_is)
    (case c27 => k_is)
    (case k27 => k_is)
    (case a28 => k_is)
    (case l28 => k_is)
    (case c28 => k_is)
    (case k28 => k_is)
    (case a29 => k_is)
    (case l29 => k_is)
    (case c29 => k_is)
    (case k29 => k_is)
    (case a30 => k_is)
    (case l30 => k_is)
    (case c30 => k_is)
    (case k30 => k_is)
    (case z_len => k_is)
    (case z_isinstance => k_is)
    (case z_int => k_is)
    (case z_bool => k_is)
    (case z_str => k_is)
    (case z_tuple => k_is)
    (case z_list => k_is)
    (case z_sorted => k_is)
    (case z_range => k_is)
    (case z_repr => k_is)
    (case z_enumerate => k_is)
    (case z_sum => k_is)
    (case z_all => k_is)
    (case z_min => k_is)
    (case z_max => k_is)
    (case z_abs => k_is)
    (case z_divmod => k_is)
    (case z_dict => k_is)
    (case z_set => k_is)
    (case gM => k_is)
    (case gS => k_is)
    (case lS => k_is)
    (case n_PutError => k_is)
    (case n_NoRow => k_is)
    (case n_NoSigns => k_is)
    (case n_NoWay => k_is)
    (case n_NoNumber => k_is)
    (case n_NoPlace => k_is)
    (case n_NoFit => k_is)
    (case n_NoForm => k_is)
    (case n_NoAsk => k_is)
    (case n_NoHolds => k_is)
    (case n_NoText => k_is)
    (case n_TooMany => k_is)
    (case z_ValueError => k_is)
    (case l_PutError => k_is)
    (case s_PutError => k_is)
    (case t_PutError => rfl)
    (case i_PutError => rfl)
    (case l_NoWay => k_is)
    (case s_NoWay => k_is)
    (case t_NoWay => rfl)
    (case i_NoWay => rfl)
    (case l_NoNumber => k_is)
    (case s_NoNumber => k_is)
    (case t_NoNumber => rfl)
    (case i_NoNumber => rfl)
    (case l_NoPlace => k_is)
    (case s_NoPlace => k_is)
    (case t_NoPlace => rfl)
    (case i_NoPlace => rfl)
    (case f1_NoWay => k_is)
    (case f2_NoWay => k_is)
    (case f3_NoWay => k_is)
    (case f4_NoWay => k_is)
    (case f5_NoWay => k_is)
    (case f6_NoWay => k_is)
    (case f1_NoNumber => k_is)
    (case f2_NoNumber => k_is)
    (case f3_NoNumber => k_is)
    (case f4_NoNumber => k_is)
    (case f5_NoNumber => k_is)
    (case f6_NoNumber => k_is)
    (case f1_NoPlace => k_is)
    (case f2_NoPlace => k_is)
    (case f3_NoPlace => k_is)
    (case f4_NoPlace => k_is)
    (case f5_NoPlace => k_is)
    (case f6_NoPlace => k_is)
    (case c_NoRow => k_is)
    (case y_NoRow => k_is)
    (case c_NoSigns => k_is)
    (case y_NoSigns => k_is)
    (case c_NoWay => k_is)
    (case y_NoWay => k_is)
    (case c_NoNumber => k_is)
    (case y_NoNumber => k_is)
    (case c_NoPlace => k_is)
    (case y_NoPlace => k_is)
    (case c_NoFit => k_is)
    (case y_NoFit => k_is)
    (case c_NoForm => k_is)
    (case y_NoForm => k_is)
    (case c_NoAsk => k_is)
    (case y_NoAsk => k_is)
    (case c_NoHolds => k_is)
    (case y_NoHolds => k_is)
    (case c_NoText => k_is)
    (case y_NoText => k_is)
    (case c_TooMany => k_is)
    (case y_TooMany => k_is)
    (case u_NoWay_NoRow => k_is)
    (case d_NoWay_NoRow => rfl)
    (case u_NoWay_NoSigns => k_is)
    (case d_NoWay_NoSigns => rfl)
    (case u_NoWay_NoNumber => k_is)
    (case d_NoWay_NoNumber => rfl)
    (case u_NoWay_NoPlace => k_is)
    (case d_NoWay_NoPlace => rfl)
    (case u_NoWay_NoFit => k_is)
    (case d_NoWay_NoFit => rfl)
    (case u_NoWay_NoForm => k_is)
    (case d_NoWay_NoForm => rfl)
    (case u_NoWay_NoAsk => k_is)
    (case d_NoWay_NoAsk => rfl)
    (case u_NoWay_NoHolds => k_is)
    (case d_NoWay_NoHolds => rfl)
    (case u_NoWay_NoText => k_is)
    (case d_NoWay_NoText => rfl)
    (case u_NoWay_TooMany => k_is)
    (case d_NoWay_TooMany => rfl)
    (case u_NoNumber_NoRow => k_is)
    (case d_NoNumber_NoRow => rfl)
    (case u_NoNumber_NoSigns => k_is)
    (case d_NoNumber_NoSigns => rfl)
    (case u_NoNumber_NoWay => k_is)
    (case d_NoNumber_NoWay => rfl)
    (case u_NoNumber_NoPlace => k_is)
    (case d_NoNumber_NoPlace => rfl)
    (case u_NoNumber_NoFit => k_is)
    (case d_NoNumber_NoFit => rfl)
    (case u_NoNumber_NoForm => k_is)
    (case d_NoNumber_NoForm => rfl)
    (case u_NoNumber_NoAsk => k_is)
    (case d_NoNumber_NoAsk => rfl)
    (case u_NoNumber_NoHolds => k_is)
    (case d_NoNumber_NoHolds => rfl)
    (case u_NoNumber_NoText => k_is)
    (case d_NoNumber_NoText => rfl)
    (case u_NoNumber_TooMany => k_is)
    (case d_NoNumber_TooMany => rfl)
    (case u_NoPlace_NoRow => k_is)
    (case d_NoPlace_NoRow => rfl)
    (case u_NoPlace_NoSigns => k_is)
    (case d_NoPlace_NoSigns => rfl)
    (case u_NoPlace_NoWay => k_is)
    (case d_NoPlace_NoWay => rfl)
    (case u_NoPlace_NoNumber => k_is)
    (case d_NoPlace_NoNumber => rfl)
    (case u_NoPlace_NoFit => k_is)
    (case d_NoPlace_NoFit => rfl)
    (case u_NoPlace_NoForm => k_is)
    (case d_NoPlace_NoForm => rfl)
    (case u_NoPlace_NoAsk => k_is)
    (case d_NoPlace_NoAsk => rfl)
    (case u_NoPlace_NoHolds => k_is)
    (case d_NoPlace_NoHolds => rfl)
    (case u_NoPlace_NoText => k_is)
    (case d_NoPlace_NoText => rfl)
    (case u_NoPlace_TooMany => k_is)
    (case d_NoPlace_TooMany => rfl)

