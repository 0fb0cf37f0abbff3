import PyProof.Rows.All
import Wide.All
import OpenK.AllK
import Wide.FinOn
import Lean
import PyProof.EqAt
import PyProof.EqKinds
import PyProof.TupleCall
import PySem.Challenge.RW_putsigns_k11_whole_worths_together
-- CHANGE: your row's module here, as the last of these rows
set_option Elab.async false
set_option linter.all false
set_option maxRecDepth 100000
/-! THE HAND LAYER, for ints, bools, texts, own classes, LISTS and tuples (index, slices, in, append, pop ..), calls, loops. Paste it whole ahead of your own text; what your proof does not reach may be deleted. -/
namespace L2
open PySem PySem.Spec PyProof.Rows

/-- a key: an int or a str -/
abbrev Key := Sum Int Str
def keyIs : Key → Value → Bool
  | .inl k, v => Value.isInt k v
  | .inr x, v => Value.isStrOf x v
def keyH (w : World) : Key → Int
  | .inl k => hashInt k
  | .inr x => hashStr w x
theorem keyIs_shape : ∀ {k : Key} {v : Value}, keyIs k v = true → (∃ i t, k = Sum.inl i ∧ v = Value.int i t) ∨ (∃ x t, k = Sum.inr x ∧ v = Value.str x t)
  | .inl i, v, h => by
    obtain ⟨t, e⟩ := Value.isInt_shape (k := i) (v := v) h
    exact .inl ⟨i, t, rfl, e⟩
  | .inr x, v, h => by
    obtain ⟨t, e⟩ := Value.isStrOf_shape (x := x) (v := v) h
    exact .inr ⟨x, t, rfl, e⟩
theorem keyIs_int (i : Int) (t : Tok) : keyIs (.inl i) (.int i t) = true := by simp [keyIs, Value.isInt]
theorem keyIs_str (x : Str) (t : Tok) : keyIs (.inr x) (.str x t) = true := by simp [keyIs, Value.isStrOf]
theorem key_ll (a b : Int) : decide ((Sum.inl a : Key) = Sum.inl b) = (a == b) := by
  by_cases e : a = b
  · subst e; simp
  · have h : ¬ (Sum.inl a : Key) = Sum.inl b := fun q => e (Sum.inl.inj q)
    rw [decide_eq_false h]
    exact (beq_eq_false_iff_ne.mpr e).symm
theorem key_rr (a b : Str) : decide ((Sum.inr a : Key) = Sum.inr b) = decide (a = b) := by
  by_cases e : a = b
  · subst e; simp
  · have h : ¬ (Sum.inr a : Key) = Sum.inr b := fun q => e (Sum.inr.inj q)
    rw [decide_eq_false h, decide_eq_false e]
theorem key_lr (a : Int) (b : Str) : decide ((Sum.inl a : Key) = Sum.inr b) = false := decide_eq_false (fun q => nomatch q)
theorem key_rl (a : Str) (b : Int) : decide ((Sum.inr a : Key) = Sum.inl b) = false := decide_eq_false (fun q => nomatch q)

def mixKind (prog : Program) (w : World) : PySem.KeyKind prog w Key where
  is := keyIs
  hash := keyH w
  inj := fun v a b ha hb => by
    rcases keyIs_shape ha with ⟨i, t, rfl, rfl⟩ | ⟨x, t, rfl, rfl⟩
    · rcases keyIs_shape hb with ⟨j, u, rfl, e⟩ | ⟨y, u, rfl, e⟩
      · injection e with e1 _; rw [e1]
      · exact nomatch e
    · rcases keyIs_shape hb with ⟨j, u, rfl, e⟩ | ⟨y, u, rfl, e⟩
      · exact nomatch e
      · injection e with e1 _; rw [e1]
  byValue := fun k v h => by
    rcases keyIs_shape h with ⟨i, t, rfl, rfl⟩ | ⟨x, t, rfl, rfl⟩ <;> rfl
  pyHash := fun hv h => by
    rcases keyIs_shape hv with ⟨i, t, rfl, rfl⟩ | ⟨x, t, rfl, rfl⟩
    · exact wpAny_pyHash_int h
    · exact wpAny_pyHash_str h
  eqBool := fun hu hv h => by
    rcases keyIs_shape hu with ⟨i, t, rfl, rfl⟩ | ⟨x, t, rfl, rfl⟩
    · rcases keyIs_shape hv with ⟨j, u, rfl, rfl⟩ | ⟨y, u, rfl, rfl⟩
      · rw [key_ll] at h; exact wpAny_eqBool_int h
      · rw [key_lr] at h; exact SeqAt.EqAt.int_str i t y u _ _ _ _ h
    · rcases keyIs_shape hv with ⟨j, u, rfl, rfl⟩ | ⟨y, u, rfl, rfl⟩
      · rw [key_rl] at h; exact SeqAt.EqAt.str_int x t j u _ _ _ _ h
      · rw [key_rr] at h; exact wpAny_eqBool_str h
  «strs» := fun k x t v h => by
    rcases keyIs_shape h with ⟨i, u, rfl, e⟩ | ⟨y, u, rfl, e⟩
    · exact nomatch e
    · injection e with e1 _
      subst e1
      cases v <;> rfl

theorem mixKind_is (prog : Program) (w : World) (k : Key) (v : Value) : (mixKind prog w).is k v = keyIs k v := rfl
theorem mixKind_int (prog : Program) (w : World) (i : Int) (t : Tok) : (mixKind prog w).is (.inl i) (.int i t) = true := keyIs_int i t
theorem mixKind_str (prog : Program) (w : World) (x : Str) (t : Tok) : (mixKind prog w).is (.inr x) (.str x t) = true := keyIs_str x t
end L2

namespace L2
open PySem PySem.Spec PyProof.Rows

/-- a value, without the heap -/
inductive V where
  | non | bl (b : Bool) | int (i : Int) | str (x : Str) | byt (b : Array UInt8) | flt (b : UInt64) | ref (a : Addr) | ty (n : String)
  deriving DecidableEq

def RelV : V → Value → Prop
  | .non, u => u = Value.none
  | .bl b, u => u = Value.bool b
  | .int i, u => ∃ t, u = Value.int i t
  | .str x, u => ∃ t, u = Value.str x t
  | .byt b, u => ∃ t, u = Value.bytes b t
  | .flt b, u => ∃ t, u = Value.float b t
  | .ref a, u => u = Value.ref a
  | .ty n, u => u = Value.type n

abbrev Vals : List V → List Value → Prop := Paired RelV
theorem Vals.length {xs : List V} {us : List Value} (r : Vals xs us) : xs.length = us.length := Paired.length r
theorem Vals.get : ∀ {xs : List V} {us : List Value} {i : Nat} {x : V}, Vals xs us → xs[i]? = some x → ∃ u, us[i]? = some u ∧ RelV x u
  | _, _, _, _, .nil, e => by simp at e
  | _, _, 0, _, .cons r _, e => by simp at e; subst e; exact ⟨_, rfl, r⟩
  | _, _, i + 1, x, .cons _ t, e => by
    obtain ⟨u, h1, h2⟩ := Vals.get (i := i) (x := x) t (by simpa using e)
    exact ⟨u, by simpa using h1, h2⟩
theorem Vals.set {x : V} {u : Value} (r : RelV x u) : ∀ {xs : List V} {us : List Value} (i : Nat), Vals xs us → Vals (xs.set i x) (us.set i u)
  | _, _, _, .nil => .nil
  | _, _, 0, .cons _ t => .cons r t
  | _, _, i + 1, .cons q t => .cons q (Vals.set r i t)
theorem Vals.append : ∀ {xs ys : List V} {us ws : List Value}, Vals xs us → Vals ys ws → Vals (xs ++ ys) (us ++ ws)
  | _, _, _, _, .nil, s => s
  | _, _, _, _, .cons r t, s => .cons r (Vals.append t s)
theorem Vals.take : ∀ {xs : List V} {us : List Value} (n : Nat), Vals xs us → Vals (xs.take n) (us.take n)
  | _, _, 0, _ => .nil
  | _, _, _ + 1, .nil => .nil
  | _, _, n + 1, .cons r t => .cons r (Vals.take n t)
theorem Vals.drop : ∀ {xs : List V} {us : List Value} (n : Nat), Vals xs us → Vals (xs.drop n) (us.drop n)
  | _, _, 0, r => r
  | _, _, _ + 1, .nil => .nil
  | _, _, n + 1, .cons _ t => Vals.drop n t
def RelO : Option V → Option Value → Prop
  | some v, some u => RelV v u
  | none, none => True
  | _, _ => False
def KV {κ : Type} : List (κ × V) → List (κ × Value) → Prop := Paired fun (p : κ × V) (q : κ × Value) => p.1 = q.1 ∧ RelV p.2 q.2

/-- a key of a dict (00_mix): an int or a text -/
def kV : Key → V
  | .inl i => .int i
  | .inr x => .str x

/-- what stands at a tracked address -/
inductive HO where
  /-- a list -/
  | lst (xs : List V)
  /-- a tuple (never changes) -/
  | tup (xs : List V)
  /-- a dict whose keys are ints and texts; one whose keys are tuples of ints and texts (the empty one is both) -/
  | dK (kvs : List (Key × V)) | dT (kvs : List (List Key × V))
  /-- a set of ints: its members, its size -/
  | set (S : Int → Bool) (n : Nat)
  /-- an instance of the class at C, its dict at dx, its attributes -/
  | ins (C dx : Addr) (fs : List (Str × V))
  /-- the dict of the instance at x -/
  | own (x : Addr)
  /-- the dict of an exception -/
  | xd (fs : List (Str × V))
  /-- a bound method, f of x -/
  | met (f x : Addr)
  /-- a range object lo, lo + 1, .. below hi -/
  | rng (lo hi : Int)
  /-- a thing that is known to the object (the script; a dict while a loop walks it): read, never written while it is so -/
  | frz (o : Obj) (u : HO)
  /-- a code object's table -/
  | tbl (ps : Array Value)
  /-- any other thing, by what is true of its one object (a def of one's own: SetO a S n := HO.ext fun h => ..) -/
  | ext (φ : Heap → Prop)

abbrev Hp := Addr → Option HO
def upd (H : Hp) (a : Addr) (o : HO) : Hp := fun b => if b = a then some o else H b
theorem upd_same {H : Hp} {a : Addr} {o : HO} : upd H a o a = some o := by unfold upd; rw [if_pos rfl]
theorem upd_ne {H : Hp} {a b : Addr} {o : HO} (h : b ≠ a) : upd H a o b = H b := by unfold upd; rw [if_neg h]
/-- two objects of different content stand apart -/
theorem ne_of {H : Hp} {a b : Addr} {o u : HO} (h : H a = some o) (h' : H b = some u) (d : o ≠ u) : a ≠ b := by
  intro e; subst e; rw [h] at h'; exact d (Option.some.inj h')
theorem ne_of_none {H : Hp} {a b : Addr} {o : HO} (h : H a = some o) (h' : H b = none) : a ≠ b := by
  intro e; subst e; rw [h] at h'; cases h'

section
variable (P : Program) (w : World)
def ObjOk (H : Hp) (h : Heap) (a : Addr) : HO → Prop
  | .lst xs => xs.length ≤ sizeLine ∧ ∃ (its : List Value) (n : Nat), Vals xs its ∧ h.get? a = some { cls := .type "list", data := .seq its.toArray n }
  | .tup xs => xs.length ≤ sizeLine ∧ ∃ its : List Value, Vals xs its ∧ IsTup h a its.toArray
  | .dK kvs => kvs.length ≤ sizeLine ∧ (a == sysModules) = false ∧ ∃ vs, KV kvs vs ∧ h.DictOf (mixKind P w) a vs
  | .dT kvs => kvs.length ≤ sizeLine ∧ (a == sysModules) = false ∧ ∃ xs : List (List Key × Addr × Value),
      Paired (fun (p : List Key × V) (q : List Key × Addr × Value) => p.1 = q.1 ∧ H q.2.1 = some (.tup (p.1.map kV)) ∧ RelV p.2 q.2.2) kvs xs ∧
      ∃ o es ep, h.get? a = some o ∧ o.ExactDict ∧ o.data = .dict es ep ∧ es.toList = xs.map (entryOfKey (tupleKind (mixKind P w))) ∧ (xs.map (·.1)).Nodup
  | .set S n => h.SetOf (intKind P w) a S n
  | .ins C dx fs => H dx = some (.own a) ∧ fs.length ≤ 1000 ∧ dx ≠ a ∧ h.get? a = some (PySem.W.instObj C dx) ∧
      ∃ mA, h.Ns1 dx mA ∧ (∀ f, RelO (fs.lookup f) (mA f)) ∧ PySem.Within mA (fs.map (·.1))
  | .own _ => ∃ o, h.get? a = some o
  | .xd fs => ∃ mA, h.Ns1 a mA ∧ ∀ f, RelO (fs.lookup f) (mA f)
  | .rng lo hi => ∃ t u v, h.get? a = some { cls := .type "range", data := .fields #[.int lo t, .int hi u, .int 1 v] }
  | .frz o u => h.get? a = some o ∧ ObjOk H h a u
  | .tbl ps => h.get? a = some { cls := .none, data := .fields ps }
  | .met f x => h.get? a = some (PySem.W.methodObj (.ref f) (.ref x))
  | .ext φ => φ h ∧ (∃ o, h.get? a = some o) ∧ ∀ h1 h2 : Heap, φ h1 → (∀ o, h1.get? a = some o → h2.get? a = some o) → φ h2
/-- the abstract heap is held -/
def HOk (H : Hp) (h : Heap) : Prop := ∀ a o, H a = some o → ObjOk P w H h a o
end

section
variable {P : Program} {w : World} {H H' : Hp} {h h' : Heap} {a : Addr} {o : HO}
theorem ObjOk.lt (x : ObjOk P w H h a o) : a < h.objs.size := by
  cases o with
  | lst xs => obtain ⟨_, _, _, _, e⟩ := x; exact Heap.lt_size e
  | tup xs => obtain ⟨_, _, _, p⟩ := x; exact p.lt
  | dK kvs => obtain ⟨_, _, _, _, o, _, _, e, _⟩ := x; exact Heap.lt_size e
  | dT kvs => obtain ⟨_, _, _, _, o, _, _, e, _⟩ := x; exact Heap.lt_size e
  | set S n => obtain ⟨o, _, _, _, e, _⟩ := x; exact Heap.lt_size e
  | ins C dx fs => obtain ⟨_, _, _, e, _⟩ := x; exact Heap.lt_size e
  | own y => obtain ⟨_, e⟩ := x; exact Heap.lt_size e
  | xd fs => obtain ⟨_, ⟨_, _, _, e, _⟩, _⟩ := x; exact Heap.lt_size e
  | rng lo hi => obtain ⟨_, _, _, e⟩ := x; exact Heap.lt_size e
  | frz ob u => obtain ⟨e, _⟩ := x; exact Heap.lt_size e
  | tbl ps => exact Heap.lt_size (show h.get? a = some _ from x)
  | met f y => exact Heap.lt_size (show h.get? a = some _ from x)
  | ext φ => obtain ⟨_, ⟨_, e⟩, _⟩ := x; exact Heap.lt_size e
theorem Paired.mapP {α β : Type} {F G : α → β → Prop} : ∀ {l₁ : List α} {l₂ : List β}, Paired F l₁ l₂ → (∀ a b, F a b → G a b) → Paired G l₁ l₂
  | _, _, .nil, _ => .nil
  | _, _, .cons r t, f => .cons (f _ _ r) (Paired.mapP t f)
/-- what an object's description leans on: its own object, its own dict, the tuples -/
theorem ObjOk.stay (x : ObjOk P w H h a o) (k : ∀ b u, (b = a ∨ H b = some (.own a)) → h.get? b = some u → h'.get? b = some u)
    (ho : ∀ b, H b = some (.own a) → H' b = some (.own a)) (ht : ∀ b xs, H b = some (.tup xs) → H' b = some (.tup xs)) : ObjOk P w H' h' a o := by
  induction o with
  | lst xs => obtain ⟨z, its, n, r, e⟩ := x; exact ⟨z, its, n, r, k _ _ (.inl rfl) e⟩
  | tup xs => obtain ⟨z, its, r, ob, e, c⟩ := x; exact ⟨z, its, r, ob, k _ _ (.inl rfl) e, c⟩
  | dK kvs => obtain ⟨z, y, vs, r, ob, es, ep, e, c⟩ := x; exact ⟨z, y, vs, r, ob, es, ep, k _ _ (.inl rfl) e, c⟩
  | dT kvs =>
    obtain ⟨z, y, xs, r, ob, es, ep, e, c⟩ := x
    exact ⟨z, y, xs, Paired.mapP r fun p q z => ⟨z.1, ht _ _ z.2.1, z.2.2⟩, ob, es, ep, k _ _ (.inl rfl) e, c⟩
  | set S n => obtain ⟨ob, es, ep, t, e, c⟩ := x; exact ⟨ob, es, ep, t, k _ _ (.inl rfl) e, c⟩
  | ins C dx fs =>
    obtain ⟨d, z, ne, e, mA, ⟨od, es, ep, e2, c⟩, r⟩ := x
    exact ⟨ho _ d, z, ne, k _ _ (.inl rfl) e, mA, ⟨od, es, ep, k _ _ (.inr d) e2, c⟩, r⟩
  | own y => obtain ⟨ob, e⟩ := x; exact ⟨ob, k _ _ (.inl rfl) e⟩
  | xd fs => obtain ⟨mA, ⟨od, es, ep, e, c⟩, r⟩ := x; exact ⟨mA, ⟨od, es, ep, k _ _ (.inl rfl) e, c⟩, r⟩
  | rng lo hi => obtain ⟨t, u, v, e⟩ := x; exact ⟨t, u, v, k _ _ (.inl rfl) e⟩
  | frz ob u ih => obtain ⟨e, q⟩ := x; exact ⟨k _ _ (.inl rfl) e, ih q⟩
  | tbl ps =>
    have e : h.get? a = some { cls := .none, data := .fields ps } := x
    show h'.get? a = some { cls := .none, data := .fields ps }
    exact k a _ (.inl rfl) e
  | met f y =>
    have e : h.get? a = some (PySem.W.methodObj (.ref f) (.ref y)) := x
    show h'.get? a = some (PySem.W.methodObj (.ref f) (.ref y))
    exact k a _ (.inl rfl) e
  | ext φ => obtain ⟨p, ⟨o, e⟩, st⟩ := x; exact ⟨st _ _ p fun o q => k _ _ (.inl rfl) q, ⟨o, k _ _ (.inl rfl) e⟩, st⟩
theorem HOk.lt (x : HOk P w H h) (e : H a = some o) : a < h.objs.size := (x a o e).lt
theorem HOk.fresh (x : HOk P w H h) (e : h.objs.size ≤ a) : H a = none := by
  cases q : H a with
  | none => rfl
  | some u => exact absurd (Nat.lt_of_lt_of_le (x.lt q) e) (Nat.lt_irrefl _)
/-- every object of the heap is kept -/
theorem HOk.kept (x : HOk P w H h) (k : ∀ b u, h.get? b = some u → h'.get? b = some u) : HOk P w H h' := fun a o e =>
  (x a o e).stay (fun b u _ q => k b u q) (fun _ q => q) fun _ _ q => q
/-- a new object is laid and tracked -/
theorem HOk.laid (x : HOk P w H h) (k : ∀ b u, h.get? b = some u → h'.get? b = some u) (hp : h.objs.size ≤ a) (new : ObjOk P w (upd H a o) h' a o) : HOk P w (upd H a o) h' := fun b u e => by
  have hn := x.fresh hp
  by_cases hb : b = a
  · subst hb; rw [upd_same] at e; cases e; exact new
  · rw [upd_ne hb] at e
    exact (x b u e).stay (fun c v _ q => k c v q) (fun c q => by rw [upd_ne (ne_of_none q hn)]; exact q) fun c xs q => by rw [upd_ne (ne_of_none q hn)]; exact q
end

/-- what may be read as u: it is u, or a known u -/
def Rd (H : Hp) (a : Addr) (u : HO) : Prop := H a = some u ∨ ∃ o, H a = some (.frz o u)
theorem Rd.ok {P : Program} {w : World} {H : Hp} {h : Heap} {a : Addr} {u : HO} (r : Rd H a u) (x : HOk P w H h) : ObjOk P w H h a u := by
  rcases r with r | ⟨o, r⟩
  · exact x a u r
  · obtain ⟨_, q⟩ := x a _ r
    exact q
/-- what may be written -/
def Mut : Option HO → Prop
  | some (.lst _) => True
  | some (.dK _) => True
  | some (.dT _) => True
  | some (.set _ _) => True
  | some (.ins _ _ _) => True
  | some (.ext _) => True
  | _ => False
section
variable {P : Program} {w : World} {H : Hp} {h h' : Heap} {x e : Addr} {o' : HO}
/-- the object at e is changed: x itself, or the dict of the instance x -/
theorem HOk.write (ok : HOk P w H h) (mu : Mut (H x)) (he : e = x ∨ H e = some (.own x)) (k : ∀ b u, b ≠ e → h.get? b = some u → h'.get? b = some u) (heo : ∃ u, h'.get? e = some u)
    (new : ObjOk P w (upd H x o') h' x o') : HOk P w (upd H x o') h' := fun b u q => by
  have nown : ∀ c y, H c = some (.own y) → c ≠ x := fun c y r z => by subst z; rw [r] at mu; exact mu
  have ntup : ∀ c xs, H c = some (.tup xs) → c ≠ x := fun c xs r z => by subst z; rw [r] at mu; exact mu
  by_cases hb : b = x
  · subst hb; rw [upd_same] at q; cases q; exact new
  · rw [upd_ne hb] at q
    by_cases hbe : b = e
    · have q' : H b = some (.own x) := by
        rcases he with z | z
        · exact absurd (hbe.trans z) hb
        · rw [hbe]; exact z
      rw [q] at q'; cases q'
      obtain ⟨v, hv⟩ := heo
      exact ⟨v, by rw [hbe]; exact hv⟩
    · refine (ok b u q).stay (fun c v hc r => k c v ?_ r) (fun c r => by rw [upd_ne (nown c b r)]; exact r) fun c xs r => by rw [upd_ne (ntup c xs r)]; exact r
      rcases hc with rfl | hc
      · exact hbe
      · rintro rfl
        rcases he with z | z
        · exact nown c b hc z
        · rw [hc] at z; cases z; exact hb rfl
end

/-! ### kept unless tracked; of the frames at fs (the callers') the slots may change (an exception that passes writes there); of the records at ex (iterators) nothing is said -/
structure Un (fs ex : List Addr) (H H' : Hp) (h h' : Heap) : Prop where
  keep : ∀ b o, h.get? b = some o → H b = none → b ∉ fs → b ∉ ex → h'.get? b = some o
  slot : ∀ b o, h.get? b = some o → H b = none → b ∈ fs → b ∉ ex → ∃ sl, h'.get? b = some { o with slots := sl }
  free : ∀ b o, h.get? b = some o → H b = none → b ∉ ex → H' b = none
  there : ∀ b o, h.get? b = some o → b ∉ ex → ∃ o', h'.get? b = some o'
  tups : ∀ b xs, H b = some (.tup xs) → H' b = some (.tup xs)
  frzs : ∀ b o u, H b = some (.frz o u) → H' b = some (.frz o u)
  tbls : ∀ b ps, H b = some (.tbl ps) → ∃ more, H' b = some (.tbl (ps ++ more))
section
variable {fs fs' ex ex' : List Addr} {H H1 H2 : Hp} {h h1 h2 h' : Heap} {a x e : Addr} {o : HO}
theorem Un.any (u : Un fs ex H H1 h h1) {b : Addr} {ob : Obj} (q : h.get? b = some ob) (n : H b = none) (hx : b ∉ ex) : ∃ sl, h1.get? b = some { ob with slots := sl } := by
  by_cases hb : b ∈ fs
  · exact u.slot b ob q n hb hx
  · exact ⟨ob.slots, u.keep b ob q n hb hx⟩
theorem Un.kept (k : ∀ b u, h.get? b = some u → h'.get? b = some u) : Un fs ex H H h h' :=
  ⟨fun b ob q _ _ _ => k b ob q, fun b ob q _ _ _ => ⟨ob.slots, k b ob q⟩, fun _ _ _ n _ => n, fun b ob q _ => ⟨ob, k b ob q⟩, fun _ _ q => q, fun _ _ _ q => q, fun _ ps q => ⟨#[], by rw [q]; simp⟩⟩
theorem Un.refl : Un fs ex H H h h := Un.kept fun _ _ q => q
theorem Un.laid (k : ∀ b u, h.get? b = some u → h'.get? b = some u) (hp : h.objs.size ≤ a) (hn : H a = none) : Un fs ex H (upd H a o) h h' where
  keep := fun b u q _ _ _ => k b u q
  slot := fun b u q _ _ _ => ⟨u.slots, k b u q⟩
  free := fun b u q n _ => by rw [upd_ne (Nat.ne_of_lt (Nat.lt_of_lt_of_le (Heap.lt_size q) hp))]; exact n
  there := fun b u q _ => ⟨u, k b u q⟩
  tups := fun b xs q => by rw [upd_ne (ne_of_none q hn)]; exact q
  frzs := fun b u xs q => by rw [upd_ne (ne_of_none q hn)]; exact q
  tbls := fun b ps q => ⟨#[], by rw [upd_ne (ne_of_none q hn), q]; simp⟩
theorem Un.write (mu : Mut (H x)) (he : e = x ∨ H e = some (.own x)) (k : ∀ b u, b ≠ e → h.get? b = some u → h'.get? b = some u) (heo : ∃ u, h'.get? e = some u) : Un fs ex H (upd H x o) h h' := by
  have hx : ∀ b, H b = none → b ≠ x := fun b n z => by subst z; rw [n] at mu; exact mu
  have hb : ∀ b, H b = none → b ≠ e := fun b n z => by
    subst z
    rcases he with r | r
    · exact hx b n r
    · rw [n] at r; cases r
  have hm : ∀ b u, H b = some u → ¬ Mut (some u) → b ≠ x := fun b u q nm z => by subst z; rw [q] at mu; exact nm mu
  refine ⟨fun b u q n _ _ => k b u (hb b n) q, fun b u q n _ _ => ⟨u.slots, k b u (hb b n) q⟩, fun b u q n _ => by rw [upd_ne (hx b n)]; exact n, fun b u q _ => ?_,
    fun b xs q => by rw [upd_ne (hm b _ q fun z => z)]; exact q, fun b u xs q => by rw [upd_ne (hm b _ q fun z => z)]; exact q, fun b ps q => ⟨#[], by rw [upd_ne (hm b _ q fun z => z), q]; simp⟩⟩
  by_cases hbe : b = e
  · subst hbe; exact heo
  · exact ⟨u, k b u hbe q⟩
end

/-! ### the heap without what is tracked -/
def trk (h : Heap) (H : Hp) : List Addr := (List.range h.objs.size).filter fun a => (H a).isSome
def hidT (h : Heap) (H : Hp) : Heap := PySem.W.hideAll h (trk h H)
theorem hidT_size (h : Heap) (H : Hp) : (hidT h H).objs.size = h.objs.size := PySem.W.hideAll_size _ _
theorem hidT_get {h : Heap} {H : Hp} {b : Addr} {o : Obj} (e : h.get? b = some o) (n : H b = none) : (hidT h H).get? b = some o :=
  PySem.W.hideAll_get _ e fun hm => by
    have q : (H b).isSome = true := (List.mem_filter.mp hm).2
    rw [n] at q; simp at q
theorem of_hidT {h : Heap} {H : Hp} {b : Addr} {o : Obj} (e : (hidT h H).get? b = some o) : h.get? b = some o ∧ H b = none := by
  have e' : h.get? b = some o := PySem.W.of_hideAll (trk h H) e
  refine ⟨e', ?_⟩
  cases q : H b with
  | none => rfl
  | some x =>
    have hm : b ∈ trk h H := List.mem_filter.mpr ⟨List.mem_range.mpr (Heap.lt_size e'), by simp [q]⟩
    have z : (hidT h H).get? b = none := PySem.W.hideAll_none (trk h H) hm
    rw [z] at e; cases e

/-! ### OpenK's ledger, filled with every new object but one -/
def allNews (g h : Heap) (L : Addr) : List (Addr × Obj) := (List.range h.objs.size).filterMap fun a => if a = L ∨ (g.get? a).isSome = true then none else (h.get? a).map fun o => (a, o)
theorem mem_allNews {g h : Heap} {L a : Addr} {o : Obj} (h1 : a ≠ L) (h2 : g.get? a = none) (h3 : h.get? a = some o) : (a, o) ∈ allNews g h L :=
  List.mem_filterMap.mpr ⟨a, List.mem_range.mpr (Heap.lt_size h3), by simp [h1, h2, h3]⟩
theorem of_mem_allNews {g h : Heap} {L : Addr} {p : Addr × Obj} (hp : p ∈ allNews g h L) : p.1 ≠ L ∧ g.get? p.1 = none ∧ h.get? p.1 = some p.2 := by
  obtain ⟨b, _, e⟩ := List.mem_filterMap.mp hp
  split at e
  · cases e
  · rename_i hn
    cases q : h.get? b with
    | none => rw [q] at e; simp at e
    | some u =>
      rw [q] at e
      simp only [Option.map_some, Option.some.injEq] at e
      subst e
      refine ⟨fun z => hn (.inl z), ?_, q⟩
      show g.get? b = none
      cases r : g.get? b with
      | none => rfl
      | some v => exact (hn (.inr (by simp [r]))).elim
def rest (g h : Heap) (L d : Addr) : List (Addr × Obj) := (allNews g h L).filter fun p => decide (p.1 ≠ d)
theorem news_all {g h : Heap} {L : Addr} : News g L h (allNews g h L) := fun p hp => let ⟨a, b, c⟩ := of_mem_allNews hp; ⟨c, a, b⟩
end L2

namespace L2
open PySem PySem.Spec PyProof.Rows

/-- the module's facts, over the base: the heap at the law's entry without what is tracked there -/
structure Mod (K : PySem.W.Frag) (mg : Str → Option Value) (base : Heap) : Prop where
  kin : K.In base
  glob : base.Ns mainGlobals mg
  blt : ∃ mb, base.Ns builtinsNs mb ∧ ∀ x : Str, x ≠ "__name__" → mb x = bootBuiltins x
  nolimit : base.NoLimit
  sysm : ∃ mm, base.Ns sysModules mm

/-- the context: a def's body (or a comprehension's block) running. base: fixed through the whole law; s₀, H₀: the entry; outer: the frames whose slots others may change (a def's callers); stack: all frames that run;
   ex: iterators that were made ahead of the entry and are walked here (a comprehension's); fn: the names whose cells were made at the entry (a def: all; a comprehension's block: its own); calm: not within an except suite; pn: pins that every state bears; xe: what is wanted of an exception that leaves the code -/
structure Cx where
  prog : Program
  w : World
  K : PySem.W.Frag
  mg : Str → Option Value
  base : Heap
  A : Around
  N : List Str
  s₀ : Shared
  H₀ : Hp
  env : Env
  outer : List Env
  stack : List Env
  ex : List Addr
  fn : Str → Bool
  calm : Bool
  pn : List (Addr × Obj)
  xe : Value → Shared → Prop
/-- the callers' frames -/
def frs (l : List Env) : List Addr := l.filterMap (·.frame)
abbrev Cx.fs (X : Cx) : List Addr := frs X.outer

def Vis (sc : Scope) (x : Str) : Prop := sc.names.lookup x = some .local ∨ sc.names.lookup x = some .cell ∨ sc.names.lookup x = some .free
def Loc (sc : Scope) (x : Str) : Prop := sc.names.lookup x = some .local ∨ sc.names.lookup x = some .cell
def Look (env : Env) (h : Heap) (m : Str → Option Value) (x : Str) (u : Value) : Prop :=
  (env.kindOf x = some .local ∧ m x = some u) ∨ ((env.kindOf x = some .cell ∨ env.kindOf x = some .free) ∧ ∃ c, env.cells.lookup x = some c ∧ h.IsCell c (some u))

structure Cx.Ok (X : Cx) : Prop where
  mod : Mod X.K X.mg X.base
  kind : X.env.scope.kind = .function
  glob : X.env.globals = mainGlobals
  blt : X.env.builtins = builtinsNs
  above : X.s₀.heap.objs.size ≤ X.env.locals
  inj : ∀ x y c, X.env.cells.lookup x = some c → X.env.cells.lookup y = some c → x = y
  has : ∀ x, (X.env.kindOf x = some .cell ∨ X.env.kindOf x = some .free) → ∃ c, X.env.cells.lookup x = some c
  cab : ∀ x c, X.fn x = true → X.env.cells.lookup x = some c → X.s₀.heap.objs.size ≤ c
  hd : X.calm = true → X.A.handled = none
  frames : X.A.frames = some X.stack
  stk : X.stack = X.outer ∨ (X.stack = X.env :: X.outer ∧ X.env.frame = some X.env.locals)
  exf : ∀ b ∈ X.ex, b ≠ X.env.locals ∧ ∀ x c, X.env.cells.lookup x = some c → c ≠ b
  bs : ∀ b o, X.base.get? b = some o → X.s₀.heap.get? b = some o ∧ X.H₀ b = none
  bsz : X.base.objs.size ≤ X.s₀.heap.objs.size
  noex : ∀ b o, X.base.get? b = some o → b ∉ X.ex
  exfs : ∀ b ∈ X.ex, b ∉ X.fs
  funs : X.s₀.heap.FunFrames X.base X.outer
  frf : ∀ b ∈ X.fs, X.H₀ b = none

structure Inv (X : Cx) (pins : List (Addr × Obj)) (σ : List (Option V)) (H : Hp) (s : Shared) : Prop where
  ok : X.Ok
  os : s.os = X.s₀.os
  bare : AllBare s.gens
  base : Un X.fs X.ex X.H₀ H X.s₀.heap s.heap
  loc : ∃ m, s.heap.Ns X.env.locals m ∧ ∀ (i : Nat) (x : Str) (v : V), X.N[i]? = some x → σ[i]? = some (some v) → Vis X.env.scope x → ∃ u, RelV v u ∧ Look X.env s.heap m x u
  cell : ∀ x c, X.env.cells.lookup x = some c → ∃ v, s.heap.IsCell c v
  free : H X.env.locals = none
  freeC : ∀ x c, X.env.cells.lookup x = some c → H c = none
  pin : ∀ p ∈ X.pn ++ pins, s.heap.get? p.1 = some p.2 ∧ H p.1 = none ∧ p.1 ≠ X.env.locals ∧ p.1 ∉ X.fs ∧ ∀ v, p.2.data ≠ .cell v
  hok : HOk X.prog X.w H s.heap
  len : σ.length = X.N.length

section
variable {X : Cx} {pins : List (Addr × Obj)} {σ : List (Option V)} {H H' : Hp} {s : Shared} {h' : Heap}

theorem Cx.Ok.nofr (ok : X.Ok) {b : Addr} {o : Obj} (e : X.base.get? b = some o) : b ∉ X.fs := fun hb => by
  have := (ok.funs.mem hb).1
  rw [e] at this; cases this
theorem Inv.bs (I : Inv X pins σ H s) : ∀ b o, X.base.get? b = some o → s.heap.get? b = some o ∧ H b = none := fun b o e =>
  ⟨I.base.keep b o (I.ok.bs b o e).1 (I.ok.bs b o e).2 (I.ok.nofr e) (I.ok.noex b o e), I.base.free b o (I.ok.bs b o e).1 (I.ok.bs b o e).2 (I.ok.noex b o e)⟩
theorem Inv.bk (I : Inv X pins σ H s) : ∀ b o, X.base.get? b = some o → s.heap.get? b = some o := fun b o e => (I.bs b o e).1
theorem Inv.mod (I : Inv X pins σ H s) : Mod X.K X.mg X.base := I.ok.mod
theorem Inv.kIn (I : Inv X pins σ H s) : X.K.In s.heap := I.ok.mod.kin.keeps I.bk
/-- the frame over the base: for OpenK's rules (K.In X.base is I.mod.kin) -/
theorem Inv.fr (I : Inv X pins σ H s) : ∃ m, Fr X.base X.env.locals s.heap m :=
  let ⟨m, hn, _⟩ := I.loc
  ⟨m, hn, I.bk, Nat.le_trans I.ok.bsz I.ok.above⟩
theorem Inv.lt (I : Inv X pins σ H s) : X.env.locals < s.heap.objs.size := let ⟨_, hn, _⟩ := I.loc; hn.lt
theorem Inv.sz (I : Inv X pins σ H s) : X.s₀.heap.objs.size ≤ s.heap.objs.size := Nat.le_trans I.ok.above (Nat.le_of_lt I.lt)
theorem Inv.nofs (I : Inv X pins σ H s) {a : Addr} (h : s.heap.objs.size ≤ a) : a ∉ X.fs := fun hb => by
  obtain ⟨_, o, ho, _⟩ := I.ok.funs.mem hb
  exact absurd (Nat.lt_of_lt_of_le (Heap.lt_size ho) (Nat.le_trans I.sz h)) (Nat.lt_irrefl _)
theorem Inv.cne (I : Inv X pins σ H s) : ∀ x c, X.env.cells.lookup x = some c → c ≠ X.env.locals := fun x c e z => by
  obtain ⟨v, o, ho, hd⟩ := I.cell x c e
  obtain ⟨m, ⟨o', es, ep, ho', hd', _⟩, _⟩ := I.loc
  rw [z, ho'] at ho; cases ho; rw [hd'] at hd; cases hd
theorem Inv.funs (I : Inv X pins σ H s) : s.heap.FunFrames X.base X.outer := by
  have all : ∀ (l : List Env), (∀ b ∈ frs l, b ∈ X.fs) → X.s₀.heap.FunFrames X.base l → s.heap.FunFrames X.base l := by
    intro l
    induction l with
    | nil => intro _ _; trivial
    | cons env r ih =>
      intro hs hl
      obtain ⟨hk, ⟨L, o, hf, hn, ho, hd⟩, hr⟩ := hl
      have hL : L ∈ X.fs := hs L (by unfold frs; rw [List.filterMap_cons, hf]; exact List.mem_cons_self)
      obtain ⟨sl, e⟩ := I.base.slot L o ho (I.ok.frf L hL) hL fun z => I.ok.exfs L z hL
      exact ⟨hk, ⟨L, _, hf, hn, e, hd⟩, ih (fun b hb => hs b (by unfold frs; rw [List.filterMap_cons, hf]; exact List.mem_cons_of_mem _ hb)) hr⟩
  exact all X.outer (fun _ hb => hb) I.ok.funs

/-- the frames that run, for a call -/
theorem Inv.stack (I : Inv X pins σ H s) : s.heap.FunFrames X.base X.stack := by
  rcases I.ok.stk with e | ⟨e, hf⟩
  · rw [e]; exact I.funs
  · rw [e]
    obtain ⟨m, hn, _⟩ := I.loc
    refine .cons (by rw [I.ok.kind]; decide) hf hn ?_ I.funs
    exact Heap.get?_none_of_le (Nat.le_trans I.ok.bsz I.ok.above)
theorem Inv.stkSub (I : Inv X pins σ H s) : ∀ b ∈ frs X.stack, b ∈ X.env.locals :: X.fs := fun b hb => by
  rcases I.ok.stk with e | ⟨e, hf⟩
  · rw [e] at hb; exact List.mem_cons_of_mem _ hb
  · rw [e] at hb
    unfold frs at hb
    rw [List.filterMap_cons, hf] at hb
    exact hb
theorem Inv.stkFree (I : Inv X pins σ H s) : ∀ b ∈ frs X.stack, H b = none := fun b hb => by
  rcases List.mem_cons.mp (I.stkSub b hb) with e | hb
  · rw [e]; exact I.free
  · obtain ⟨_, o, ho, _⟩ := I.ok.funs.mem hb
    exact I.base.free b o ho (I.ok.frf b hb) fun z => I.ok.exfs b z hb

/-- THE STEP: the untracked objects but the frame and the records at ch are kept (the callers' frames up to slots), the frame's map is kept, the new abstract heap is held -/
theorem Inv.step {g' : Array GenState} {t' : Nat} {d' : Drawn} {ch : List Addr} (I : Inv X pins σ H s)
    (hch : ∀ b ∈ ch, (b ∈ X.ex ∨ X.s₀.heap.objs.size ≤ b) ∧ b ≠ X.env.locals ∧ (∀ x c, X.env.cells.lookup x = some c → c ≠ b) ∧ ∀ p ∈ X.pn ++ pins, p.1 ≠ b)
    (keep : ∀ b o, b ≠ X.env.locals → b ∉ X.fs → b ∉ ch → s.heap.get? b = some o → H b = none → h'.get? b = some o)
    (slot : ∀ b o, b ≠ X.env.locals → b ∈ X.fs → b ∉ ch → s.heap.get? b = some o → H b = none → ∃ sl, h'.get? b = some { o with slots := sl }) (free : ∀ b o, b ∉ ch → s.heap.get? b = some o → H b = none → H' b = none)
    (there : ∀ b o, b ∉ ch → s.heap.get? b = some o → ∃ o', h'.get? b = some o')
    (tups : ∀ b xs, H b = some (.tup xs) → H' b = some (.tup xs)) (frzs : ∀ b o u, H b = some (.frz o u) → H' b = some (.frz o u)) (tbls : ∀ b ps, H b = some (.tbl ps) → ∃ more, H' b = some (.tbl (ps ++ more)))
    (ns : ∀ m, s.heap.Ns X.env.locals m → h'.Ns X.env.locals m) (hok : HOk X.prog X.w H' h') (hg : AllBare g') :
    Inv X pins σ H' { s with heap := h', gens := g', drawn := d', toks := t' } := by
  have neL : ∀ b o, X.s₀.heap.get? b = some o → b ≠ X.env.locals := fun b o e => Nat.ne_of_lt (Nat.lt_of_lt_of_le (Heap.lt_size e) I.ok.above)
  have neC : ∀ b o, X.s₀.heap.get? b = some o → b ∉ X.ex → b ∉ ch := fun b o e hx hb => by
    rcases (hch b hb).1 with z | z
    · exact hx z
    · exact absurd (Nat.lt_of_lt_of_le (Heap.lt_size e) z) (Nat.lt_irrefl _)
  have cellK : ∀ x c, X.env.cells.lookup x = some c → ∀ v, s.heap.IsCell c v → h'.IsCell c v := fun x c e v ⟨o, ho, hd⟩ => by
    have nch : c ∉ ch := fun z => (hch c z).2.2.1 x c e rfl
    by_cases hc : c ∈ X.fs
    · obtain ⟨sl, q⟩ := slot c o (I.cne x c e) hc nch ho (I.freeC x c e)
      exact ⟨_, q, hd⟩
    · exact ⟨o, keep c o (I.cne x c e) hc nch ho (I.freeC x c e), hd⟩
  refine ⟨I.ok, I.os, hg, ⟨fun b o e n hb hx => ?_, fun b o e n hb hx => ?_, fun b o e n hx => ?_, fun b o e hx => ?_, fun b xs e => tups b xs (I.base.tups b xs e), fun b o xs e => frzs b o xs (I.base.frzs b o xs e), fun b ps e => ?_⟩, ?_, fun x c e => ?_, ?_, fun x c e => ?_, fun p hp => ?_, hok, I.len⟩
  · exact keep b o (neL b o e) hb (neC b o e hx) (I.base.keep b o e n hb hx) (I.base.free b o e n hx)
  · obtain ⟨sl, e1⟩ := I.base.slot b o e n hb hx
    obtain ⟨sl', e2⟩ := slot b _ (neL b o e) hb (neC b o e hx) e1 (I.base.free b o e n hx)
    exact ⟨sl', e2⟩
  · obtain ⟨o', e1⟩ := I.base.there b o e hx
    exact free b o' (neC b o e hx) e1 (I.base.free b o e n hx)
  · obtain ⟨o', e1⟩ := I.base.there b o e hx
    exact there b o' (neC b o e hx) e1
  · obtain ⟨m1, e1⟩ := I.base.tbls b ps e
    obtain ⟨m2, e2⟩ := tbls b _ e1
    exact ⟨m1 ++ m2, by rw [e2, Array.append_assoc]⟩
  · obtain ⟨m, hn, hl⟩ := I.loc
    refine ⟨m, ns m hn, fun i x v e1 e2 e3 => ?_⟩
    obtain ⟨u, r, l⟩ := hl i x v e1 e2 e3
    refine ⟨u, r, ?_⟩
    rcases l with l | ⟨k, c, e, z⟩
    · exact .inl l
    · exact .inr ⟨k, c, e, cellK x c e _ z⟩
  · obtain ⟨v, z⟩ := I.cell x c e
    exact ⟨v, cellK x c e v z⟩
  · obtain ⟨m, ⟨o, _, _, ho, _⟩, _⟩ := I.loc
    exact free _ o (fun z => (hch _ z).2.1 rfl) ho I.free
  · obtain ⟨v, o, ho, hd⟩ := I.cell x c e
    exact free c o (fun z => (hch c z).2.2.1 x c e rfl) ho (I.freeC x c e)
  · obtain ⟨e, n, ne, nf, d⟩ := I.pin p hp
    have nch : p.1 ∉ ch := fun z => (hch p.1 z).2.2.2 p hp rfl
    exact ⟨keep p.1 p.2 ne nf nch e n, free p.1 p.2 nch e n, ne, nf, d⟩
/-- .. where the frame's own object is kept too -/
theorem Inv.un {t' : Nat} (I : Inv X pins σ H s) (u : Un X.fs [] H H' s.heap h') (hok : HOk X.prog X.w H' h') : Inv X pins σ H' { s with heap := h', toks := t' } := by
  obtain ⟨m, ⟨o, es, ep, ho, r⟩, _⟩ := id I.loc
  obtain ⟨sl, hL⟩ := u.any ho I.free (by simp)
  exact I.step (g' := s.gens) (d' := s.drawn) (ch := []) (fun _ z => nomatch z) (fun b o _ hb _ e n => u.keep b o e n hb (by simp)) (fun b o _ hb _ e n => u.slot b o e n hb (by simp)) (fun b o _ e n => u.free b o e n (by simp)) (fun b o _ e => u.there b o e (by simp)) u.tups u.frzs u.tbls (fun m' hm => by
    obtain ⟨o', es', ep', ho', r'⟩ := hm
    rw [ho] at ho'; cases ho'
    exact ⟨_, es', ep', hL, r'⟩) hok I.bare
/-- behind a call (or a comprehension's block): the slots of this frame may have changed too, the records at ch may have turned -/
theorem Inv.call {g' : Array GenState} {t' : Nat} {d' : Drawn} {ch : List Addr} (I : Inv X pins σ H s) (u : Un (frs X.stack) ch H H' s.heap h') (hok : HOk X.prog X.w H' h') (hg : AllBare g')
    (hch : ∀ b ∈ ch, (b ∈ X.ex ∨ X.s₀.heap.objs.size ≤ b) ∧ b ≠ X.env.locals ∧ (∀ x c, X.env.cells.lookup x = some c → c ≠ b) ∧ ∀ p ∈ X.pn ++ pins, p.1 ≠ b) :
    Inv X pins σ H' { s with heap := h', gens := g', drawn := d', toks := t' } := by
  obtain ⟨m, ⟨o, es, ep, ho, r⟩, _⟩ := id I.loc
  obtain ⟨sl, hL⟩ := u.any ho I.free fun z => (hch _ z).2.1 rfl
  exact I.step (ch := ch) hch (fun b o hL hb hc e n => u.keep b o e n (fun z => (List.mem_cons.mp (I.stkSub b z)).elim hL hb) hc) (fun b o _ _ hc e n => u.any e n hc) (fun b o hc e n => u.free b o e n hc) (fun b o hc e => u.there b o e hc) u.tups u.frzs u.tbls (fun m' hm => by
    obtain ⟨o', es', ep', ho', r'⟩ := hm
    rw [ho] at ho'; cases ho'
    exact ⟨_, es', ep', hL, r'⟩) hok hg
/-- an untracked record of ours (an iterator) has turned -/
theorem Inv.turned {t' : Nat} {it : Addr} (I : Inv X pins σ H s) (k : ∀ b o, b ≠ it → s.heap.get? b = some o → h'.get? b = some o) (hn : H it = none) (hL : it ≠ X.env.locals)
    (h1 : it ∈ X.ex ∨ X.s₀.heap.objs.size ≤ it) (h2 : ∀ x c, X.env.cells.lookup x = some c → c ≠ it) (h3 : ∀ p ∈ X.pn ++ pins, p.1 ≠ it) : Inv X pins σ H { s with heap := h', toks := t' } := by
  have nit : ∀ b u, H b = some u → b ≠ it := fun b u e z => by rw [z, hn] at e; cases e
  refine I.step (g' := s.gens) (d' := s.drawn) (ch := [it]) (fun b hb => ?_) (fun b o _ _ hc e _ => k b o (fun z => hc (by simp [z])) e) (fun b o _ _ hc e _ => ⟨o.slots, k b o (fun z => hc (by simp [z])) e⟩) (fun _ _ _ _ n => n)
    (fun b o hc e => ⟨o, k b o (fun z => hc (by simp [z])) e⟩) (fun _ _ e => e) (fun _ _ _ e => e) (fun b ps e => ⟨#[], by rw [e]; simp⟩) (fun m hm => ?_) (fun b u e => ?_) I.bare
  · have e : b = it := by simpa using hb
    subst e
    exact ⟨h1, hL, h2, h3⟩
  · obtain ⟨o, es, ep, ho, r⟩ := hm
    exact ⟨o, es, ep, k _ o (Ne.symm hL) ho, r⟩
  · refine (I.hok b u e).stay (fun c v hc q => k c v ?_ q) (fun _ q => q) fun _ _ q => q
    rcases hc with z | z
    · rw [z]; exact nit b u e
    · exact nit c _ z
theorem Inv.tok (I : Inv X pins σ H s) (t : Nat) : Inv X pins σ H { s with toks := t } := I.un (h' := s.heap) (t' := t) Un.refl I.hok
/-- all objects kept -/
theorem Inv.kept {t' : Nat} (I : Inv X pins σ H s) (k : ∀ b u, s.heap.get? b = some u → h'.get? b = some u) : Inv X pins σ H { s with heap := h', toks := t' } := I.un (Un.kept k) (I.hok.kept k)
/-- a new object laid and tracked -/
theorem Inv.laid {a : Addr} {o : HO} {t' : Nat} (I : Inv X pins σ H s) (k : ∀ b u, s.heap.get? b = some u → h'.get? b = some u) (hp : s.heap.objs.size ≤ a) (new : ObjOk X.prog X.w (upd H a o) h' a o) :
    Inv X pins σ (upd H a o) { s with heap := h', toks := t' } := I.un (Un.laid k hp (I.hok.fresh hp)) (I.hok.laid k hp new)
/-- an object written -/
theorem Inv.write {x e : Addr} {o : HO} {t' : Nat} (I : Inv X pins σ H s) (mu : Mut (H x)) (he : e = x ∨ H e = some (.own x)) (k : ∀ b u, b ≠ e → s.heap.get? b = some u → h'.get? b = some u) (heo : ∃ u, h'.get? e = some u)
    (new : ObjOk X.prog X.w (upd H x o) h' x o) : Inv X pins σ (upd H x o) { s with heap := h', toks := t' } := I.un (Un.write mu he k heo) (I.hok.write mu he k heo new)
theorem Inv.pins_of {pins' : List (Addr × Obj)} (I : Inv X pins σ H s) (h : ∀ p ∈ pins', s.heap.get? p.1 = some p.2 ∧ H p.1 = none ∧ p.1 ≠ X.env.locals ∧ p.1 ∉ X.fs ∧ ∀ v, p.2.data ≠ .cell v) : Inv X pins' σ H s :=
  ⟨I.ok, I.os, I.bare, I.base, I.loc, I.cell, I.free, I.freeC, fun p hp => (List.mem_append.mp hp).elim (fun z => I.pin p (List.mem_append_left _ z)) (h p), I.hok, I.len⟩

theorem nodup_ix {N : List Str} (hN : N.Nodup) {i j : Nat} {x : Str} (a : N[i]? = some x) (b : N[j]? = some x) : i = j := by
  obtain ⟨h1, e1⟩ := List.getElem?_eq_some_iff.mp a
  obtain ⟨h2, e2⟩ := List.getElem?_eq_some_iff.mp b
  exact (List.getElem_inj hN).mp (e1.trans e2.symm)

/-- a name is stored; what changed -/
theorem store_ok2 {M : Model} {A : Around} {E : Value → Shared → Prop} {i : Nat} {x : Str} {v : V} {u : Value} {Q : Unit → Shared → Prop} (I : Inv X pins σ H s) (hN : X.N.Nodup) (hi : X.N[i]? = some x) (hx : Loc X.env.scope x) (r : RelV v u)
    (h : ∀ s', Inv X pins (σ.set i (some v)) H s' → (∃ a, Heap.SameBut a s.heap s'.heap ∧ (a = X.env.locals ∨ X.env.cells.lookup x = some a)) → Q () s') (hf : X.fn x = true ∨ X.env.scope.names.lookup x = some .local := by first | exact .inl rfl | exact .inr rfl | assumption) : wpAny M A (storeName X.env x u) Q E s := by
  obtain ⟨m, hn, hl⟩ := id I.loc
  have hcls : (X.env.scope.kind == .class || (X.env.scope.kind == .module && X.env.locals != X.env.globals)) = false := by rw [I.ok.kind]; rfl
  have hiσ : i < σ.length := by rw [I.len]; exact (List.getElem?_eq_some_iff.mp hi).1
  have cne := I.cne
  have tracked : ∀ {a : Addr} {h' : Heap}, (∃ o, s.heap.get? a = some o ∧ H a = none) → Heap.SameBut a s.heap h' → HOk X.prog X.w H h' := fun {a h'} ha hs b ob e => by
    obtain ⟨_, _, hfree⟩ := ha
    refine (I.hok b ob e).stay (fun c w' hc q => (hs.2 c ?_).trans q) (fun _ q => q) fun _ _ q => q
    rintro rfl
    rcases hc with rfl | hc
    · rw [hfree] at e; cases e
    · rw [hfree] at hc; cases hc
  rcases hx with hk | hk
  · refine wpAny_storeName_local hk hn (fun h' hn' hs => ?_) hcls
    obtain ⟨oL, _, _, hoL, _⟩ := id hn
    refine h _ ⟨I.ok, I.os, I.bare, ⟨fun b o e n hb hx => ?_, fun b o e n hb hx => ?_, I.base.free, fun b o e hx => ?_, I.base.tups, I.base.frzs, I.base.tbls⟩, ⟨_, hn', fun j y v' e1 e2 e3 => ?_⟩, fun y c e => ?_, I.free, I.freeC, fun p hp => ?_, tracked ⟨oL, hoL, I.free⟩ hs, by simpa using I.len⟩ ⟨_, hs, .inl rfl⟩
    · exact (hs.2 b (Nat.ne_of_lt (Nat.lt_of_lt_of_le (Heap.lt_size e) I.ok.above))).trans (I.base.keep b o e n hb hx)
    · obtain ⟨sl, e1⟩ := I.base.slot b o e n hb hx
      exact ⟨sl, (hs.2 b (Nat.ne_of_lt (Nat.lt_of_lt_of_le (Heap.lt_size e) I.ok.above))).trans e1⟩
    · obtain ⟨o', e1⟩ := I.base.there b o e hx
      exact ⟨o', (hs.2 b (Nat.ne_of_lt (Nat.lt_of_lt_of_le (Heap.lt_size e) I.ok.above))).trans e1⟩
    · by_cases hj : j = i
      · subst hj
        rw [hi] at e1; cases e1
        rw [List.getElem?_set_self hiσ] at e2
        cases e2
        exact ⟨u, r, .inl ⟨hk, by simp⟩⟩
      · rw [List.getElem?_set_ne (Ne.symm hj)] at e2
        obtain ⟨u', r', q⟩ := hl j y v' e1 e2 e3
        refine ⟨u', r', ?_⟩
        rcases q with ⟨k, e⟩ | ⟨k, c, e, z⟩
        · refine .inl ⟨k, ?_⟩
          have : y ≠ x := fun e => hj (nodup_ix hN e1 (e ▸ hi))
          simp [this, e]
        · exact .inr ⟨k, c, e, z.sameBut hs (cne y c e)⟩
    · obtain ⟨w', z⟩ := I.cell y c e
      exact ⟨w', z.sameBut hs (cne y c e)⟩
    · obtain ⟨e, n, ne, nf, d⟩ := I.pin p hp
      exact ⟨(hs.2 p.1 ne).trans e, n, ne, nf, d⟩
  · have hfn : X.fn x = true := by
      rcases hf with z | z
      · exact z
      · rw [z] at hk; cases hk
    obtain ⟨c, hc⟩ := I.ok.has x (.inl hk)
    obtain ⟨w', z⟩ := I.cell x c hc
    refine wpAny_storeName_cell I.ok.kind hk hc z (fun h' hc' hs => ?_)
    obtain ⟨oc, hoc, hocd⟩ := id z
    refine h { s with heap := h' } ⟨I.ok, I.os, I.bare, ⟨fun b o e n hb hx => ?_, fun b o e n hb hx => ?_, I.base.free, fun b o e hx => ?_, I.base.tups, I.base.frzs, I.base.tbls⟩, ⟨m, hn.sameBut hs (Ne.symm (cne x c hc)), fun j y v' e1 e2 e3 => ?_⟩, fun y c' e => ?_, I.free, I.freeC, fun p hp => ?_, tracked ⟨oc, hoc, I.freeC x c hc⟩ hs, by simpa using I.len⟩ ⟨c, hs, .inr hc⟩
    · exact (hs.2 b (Nat.ne_of_lt (Nat.lt_of_lt_of_le (Heap.lt_size e) (I.ok.cab x c hfn hc)))).trans (I.base.keep b o e n hb hx)
    · obtain ⟨sl, e1⟩ := I.base.slot b o e n hb hx
      exact ⟨sl, (hs.2 b (Nat.ne_of_lt (Nat.lt_of_lt_of_le (Heap.lt_size e) (I.ok.cab x c hfn hc)))).trans e1⟩
    · obtain ⟨o', e1⟩ := I.base.there b o e hx
      exact ⟨o', (hs.2 b (Nat.ne_of_lt (Nat.lt_of_lt_of_le (Heap.lt_size e) (I.ok.cab x c hfn hc)))).trans e1⟩
    · by_cases hj : j = i
      · subst hj
        rw [hi] at e1; cases e1
        rw [List.getElem?_set_self hiσ] at e2
        cases e2
        exact ⟨u, r, .inr ⟨.inl hk, c, hc, hc'⟩⟩
      · rw [List.getElem?_set_ne (Ne.symm hj)] at e2
        obtain ⟨u', r', q⟩ := hl j y v' e1 e2 e3
        refine ⟨u', r', ?_⟩
        rcases q with q | ⟨k, c', e, z'⟩
        · exact .inl q
        · refine .inr ⟨k, c', e, z'.sameBut hs ?_⟩
          rintro rfl
          exact hj (nodup_ix hN e1 (I.ok.inj _ _ _ e hc ▸ hi))
    · by_cases hcc : c' = c
      · subst hcc; exact ⟨_, hc'⟩
      · obtain ⟨w2, z2⟩ := I.cell y c' e
        exact ⟨w2, z2.sameBut hs hcc⟩
    · obtain ⟨e, n, ne, nf, d⟩ := I.pin p hp
      refine ⟨(hs.2 p.1 ?_).trans e, n, ne, nf, d⟩
      intro q
      rw [q, hoc] at e
      have q' : oc = p.2 := Option.some.inj e
      exact d w' (by rw [← q']; exact hocd)
theorem store_ok {M : Model} {A : Around} {E : Value → Shared → Prop} {i : Nat} {x : Str} {v : V} {u : Value} {Q : Unit → Shared → Prop} (I : Inv X pins σ H s) (hN : X.N.Nodup) (hi : X.N[i]? = some x) (hx : Loc X.env.scope x) (r : RelV v u)
    (h : ∀ s', Inv X pins (σ.set i (some v)) H s' → Q () s') (hf : X.fn x = true ∨ X.env.scope.names.lookup x = some .local := by first | exact .inl rfl | exact .inr rfl | assumption) : wpAny M A (storeName X.env x u) Q E s :=
  store_ok2 I hN hi hx r (fun s' I' _ => h s' I') hf
/-- behind a call or a block, the state as it is -/
theorem Inv.call' {s' : Shared} {ch : List Addr} (I : Inv X pins σ H s) (ho : s'.os = s.os) (u : Un (frs X.stack) ch H H' s.heap s'.heap) (hok : HOk X.prog X.w H' s'.heap) (hg : AllBare s'.gens)
    (hch : ∀ b ∈ ch, (b ∈ X.ex ∨ X.s₀.heap.objs.size ≤ b) ∧ b ≠ X.env.locals ∧ (∀ x c, X.env.cells.lookup x = some c → c ≠ b) ∧ ∀ p ∈ X.pn ++ pins, p.1 ≠ b) : Inv X pins σ H' s' := by
  obtain ⟨h', g', d', t', o'⟩ := s'
  have e : o' = s.os := ho
  subst e
  exact I.call (g' := g') (t' := t') (d' := d') u hok hg hch
end

/-! ### the judgements -/
/-- an exception: its class, its own dict's address (where it has one), the abstract heap behind it -/
abbrev XK := Value → Option Addr → Hp → Prop
abbrev St := List (Option V)
abbrev VK := V → Hp → Prop
/-- an expression's reading; a test's; an argument list's -/
abbrev TE := St → Hp → VK → Prop
abbrev TT := St → Hp → (Bool → Hp → Prop) → Prop
abbrev TA := St → Hp → (List V → Hp → Prop) → Prop
/-- what is wanted behind a statement -/
structure Ends where
  nx : St → Hp → Prop
  rt : VK
  bk : St → Hp → Prop := fun _ _ => False
  ct : St → Hp → Prop := fun _ _ => False
abbrev TS := Ends → St → Hp → Prop

def EP (X : Cx) (pins : List (Addr × Obj)) (σ : St) (Q : VK) (u : Value) (s' : Shared) : Prop := ∃ v H', Inv X pins σ H' s' ∧ RelV v u ∧ Q v H'
def TP (X : Cx) (pins : List (Addr × Obj)) (σ : St) (Q : Bool → Hp → Prop) (b : Bool) (s' : Shared) : Prop := ∃ H', Inv X pins σ H' s' ∧ Q b H'
def AP (X : Cx) (pins : List (Addr × Obj)) (σ : St) (Q : List V → Hp → Prop) (us : List Value) (s' : Shared) : Prop := ∃ vs H', Inv X pins σ H' s' ∧ Vals vs us ∧ Q vs H'
def SP (X : Cx) (pins : List (Addr × Obj)) (D : Ends) (f : Flow) (s' : Shared) : Prop :=
  match f with
  | .next => ∃ σ' H', Inv X pins σ' H' s' ∧ D.nx σ' H'
  | .brk => ∃ σ' H', Inv X pins σ' H' s' ∧ D.bk σ' H'
  | .cont => ∃ σ' H', Inv X pins σ' H' s' ∧ D.ct σ' H'
  | .ret u => ∃ v σ' H', Inv X pins σ' H' s' ∧ RelV v u ∧ D.rt v H'

def PE (X : Cx) (e : Expr) (t : TE) : Prop :=
  ∀ (pins : List (Addr × Obj)) (s : Shared) (σ : St) (H : Hp) (Q : VK), Inv X pins σ H s → t σ H Q → wpAny (model X.prog X.w) X.A (eval e X.env) (EP X pins σ Q) X.xe s
def PT (X : Cx) (e : Expr) (t : TT) : Prop :=
  ∀ (pins : List (Addr × Obj)) (s : Shared) (σ : St) (H : Hp) (Q : Bool → Hp → Prop), Inv X pins σ H s → t σ H Q → wpAny (model X.prog X.w) X.A (isTrue e X.env (eval e X.env)) (TP X pins σ Q) X.xe s
/-- a test whatever its 'whole' is (and, or) -/
def PW (X : Cx) (e : Expr) (t : TT) : Prop :=
  ∀ (whole : Sem Value) (pins : List (Addr × Obj)) (s : Shared) (σ : St) (H : Hp) (Q : Bool → Hp → Prop), Inv X pins σ H s → t σ H Q → wpAny (model X.prog X.w) X.A (isTrue e X.env whole) (TP X pins σ Q) X.xe s
theorem PW.pt {X : Cx} {e : Expr} {t : TT} (h : PW X e t) : PT X e t := h _
/-- an argument list (no star), from the left -/
def PA (X : Cx) (es : List Expr) (t : TA) : Prop :=
  ∀ (pos : Pos) (pins : List (Addr × Obj)) (s : Shared) (σ : St) (H : Hp) (Q : List V → Hp → Prop), Inv X pins σ H s → t σ H Q → wpAny (model X.prog X.w) X.A (spliced (backTo pos (starEach es X.env))) (AP X pins σ Q) X.xe s
def PS (X : Cx) (st : Stmt) (t : TS) : Prop :=
  ∀ (pins : List (Addr × Obj)) (s : Shared) (σ : St) (H : Hp) (D : Ends), Inv X pins σ H s → t D σ H → wpAny (model X.prog X.w) X.A (exec st X.env) (SP X pins D) X.xe s
def PSs (X : Cx) (st : List Stmt) (t : TS) : Prop :=
  ∀ (pins : List (Addr × Obj)) (s : Shared) (σ : St) (H : Hp) (D : Ends), Inv X pins σ H s → t D σ H → wpAny (model X.prog X.w) X.A (execs st X.env) (SP X pins D) X.xe s
/-- weaken the end -/
theorem thn {α : Type} {t : Sem α} {Q Q' : α → Shared → Prop} {M : Model} {A : Around} {E : Value → Shared → Prop} {s : Shared} (h : wpAny M A t Q E s) (hQ : ∀ a s, Q a s → Q' a s) : wpAny M A t Q' E s := wpAny_mono h hQ fun _ _ x => x
end L2

namespace L2
open PySem PySem.Spec PyProof.Rows
section
variable {X : Cx}

/-- two expressions in a row -/
theorem bin {a b : Expr} {ta tb : TE} (ha : PE X a ta) (hb : PE X b tb) {pins : List (Addr × Obj)} {s : Shared} {σ : St} {H : Hp} {R : V → V → Hp → Prop} (I : Inv X pins σ H s) (h : ta σ H fun x H1 => tb σ H1 fun y H2 => R x y H2)
    {α : Type} {Q : α → Shared → Prop} {f : Value → Value → Sem α}
    (hf : ∀ v u s2 x y H2, Inv X pins σ H2 s2 → RelV x v → RelV y u → R x y H2 → wpAny (model X.prog X.w) X.A (f v u) Q X.xe s2) :
    wpAny (model X.prog X.w) X.A (eval a X.env) (fun v s₁ => wpAny (model X.prog X.w) X.A (eval b X.env) (fun u s₂ => wpAny (model X.prog X.w) X.A (f v u) Q X.xe s₂) X.xe s₁) X.xe s := by
  refine thn (ha pins s σ H _ I h) fun v s1 ⟨x, H1, I1, r1, q1⟩ => ?_
  refine thn (hb pins s1 σ H1 _ I1 q1) fun u s2 ⟨y, H2, I2, r2, q2⟩ => ?_
  exact hf v u s2 x y H2 I2 r1 r2 q2

/-! ### names and constants -/
def tVar (i : Nat) : TE := fun σ H Q => ∃ v, σ[i]? = some (some v) ∧ Q v H
def tC (v : V) : TE := fun _ H Q => Q v H
theorem pe_var {i : Nat} {x : Str} {pos : Pos} (hN : X.N[i]? = some x) (hv : Vis X.env.scope x) (hd : (x == ("__debug__" : Str)) = false := by decide) (hcd : (x == ("__classdict__" : Str)) = false := by decide) : PE X (.Name x pos) (tVar i) := by
  intro pins s σ H Q I h
  obtain ⟨v, e, h⟩ := h
  obtain ⟨m, hn, hl⟩ := I.loc
  obtain ⟨u, r, l⟩ := hl i x v hN e hv
  have fin : EP X pins σ Q u s := ⟨v, H, I, r, h⟩
  rcases l with ⟨hk, hm⟩ | ⟨hk, c, hc, hcell⟩
  · exact wpAny_Name (wpAny_loadName_local I.ok.kind hk hn hm fin) hd
  · rcases hk with hk | hk
    · exact wpAny_Name (wpAny_loadName_cell I.ok.kind hk hc hcell fin) hd
    · exact wpAny_Name (wpAny_loadName_free I.ok.kind hk hc hcell fin hcd) hd
theorem pe_int {i j pos} : PE X (.Constant (.int i) j pos) (tC (.int i)) := fun _ _ _ H _ I h => wpAny_Constant_int ⟨.int i, H, I.tok _, ⟨_, rfl⟩, h⟩
theorem pe_bl {b j pos} : PE X (.Constant (.bool b) j pos) (tC (.bl b)) := fun _ _ _ H _ I h => Constant_bool ⟨.bl b, H, I, rfl, h⟩
theorem pe_str {x j pos} : PE X (.Constant (.str x) j pos) (tC (.str x)) := fun _ _ _ H _ I h => Calls.Constant_str ⟨.str x, H, I.tok _, ⟨_, rfl⟩, h⟩

/-- a global name of the def -/
def Gl (X : Cx) (x : Str) : Prop := X.env.kindOf x = some .globalImplicit
theorem ld_glob {E : Value → Shared → Prop} {pins : List (Addr × Obj)} {s : Shared} {σ : St} {H : Hp} {x : Str} {u : Value} {pos : Pos} {Q : Value → Shared → Prop} (I : Inv X pins σ H s) (hg : Gl X x) (hm : X.mg x = some u) (h : Q u s)
    (hd : (x == ("__debug__" : Str)) = false := by decide) : wpAny (model X.prog X.w) X.A (eval (.Name x pos) X.env) Q E s :=
  Calls.Name_function_global I.ok.kind hg (Calls.loadGlobal_global (by rw [I.ok.glob]; exact I.mod.glob.keeps I.bk) hm h) hd
theorem ld_blt {E : Value → Shared → Prop} {pins : List (Addr × Obj)} {s : Shared} {σ : St} {H : Hp} {x : Str} {u : Value} {pos : Pos} {Q : Value → Shared → Prop} (I : Inv X pins σ H s) (hg : Gl X x) (hm : X.mg x = none) (hv : bootBuiltins x = some u) (h : Q u s)
    (hn : x ≠ "__name__" := by decide) (hd : (x == ("__debug__" : Str)) = false := by decide) : wpAny (model X.prog X.w) X.A (eval (.Name x pos) X.env) Q E s := by
  obtain ⟨mb, h1, h2⟩ := I.mod.blt
  exact Calls.Name_function_global I.ok.kind hg (Calls.loadGlobal_builtin (by rw [I.ok.glob]; exact I.mod.glob.keeps I.bk) hm (by rw [I.ok.blt]; exact h1.keeps I.bk) ((h2 x hn).trans hv) h) hd
/-- a module's constant, a class, a function, as a value -/
theorem pe_glob {x : Str} {v : V} {u : Value} {pos : Pos} (hg : Gl X x) (hm : X.mg x = some u) (r : RelV v u) (hd : (x == ("__debug__" : Str)) = false := by decide) : PE X (.Name x pos) (tC v) :=
  fun _ _ _ H _ I h => ld_glob I hg hm ⟨v, H, I, r, h⟩ hd
theorem pe_bltn {x : Str} {v : V} {u : Value} {pos : Pos} (hg : Gl X x) (hm : X.mg x = none) (hv : bootBuiltins x = some u) (r : RelV v u) (hn : x ≠ "__name__" := by decide) (hd : (x == ("__debug__" : Str)) = false := by decide) : PE X (.Name x pos) (tC v) :=
  fun _ _ _ H _ I h => ld_blt I hg hm hv ⟨v, H, I, r, h⟩ hn hd

/-! ### arithmetic -/
/-- two ints -/
def t2I (ta tb : TE) (k : Int → Int → Hp → Prop) : St → Hp → Prop := fun σ H => ta σ H fun x H1 => tb σ H1 fun y H2 => ∃ i j, x = .int i ∧ y = .int j ∧ k i j H2
def tAdd (ta tb : TE) : TE := fun σ H Q => t2I ta tb (fun i j H2 => Q (.int (i + j)) H2) σ H
def tSub (ta tb : TE) : TE := fun σ H Q => t2I ta tb (fun i j H2 => Q (.int (i - j)) H2) σ H
/-- the left factor below 2^64 -/
def tMul (ta tb : TE) : TE := fun σ H Q => t2I ta tb (fun i j H2 => (-(2 ^ 64) < i ∧ i < 2 ^ 64) ∧ Q (.int (i * j)) H2) σ H
variable {a b : Expr} {ta tb : TE} {pos : Pos}
/-! ### comparisons -/
def PC (X : Cx) (op : CmpOp) (a b : Expr) (t : TE) : Prop :=
  ∀ (pins : List (Addr × Obj)) (s : Shared) (σ : St) (H : Hp) (Q : VK), Inv X pins σ H s → t σ H Q →
    wpAny (model X.prog X.w) X.A (eval a X.env) (fun v s₁ => wpAny (model X.prog X.w) X.A (eval b X.env) (fun u s₂ => wpAny (model X.prog X.w) X.A (compareOp op v u) (EP X pins σ Q) X.xe s₂) X.xe s₁) X.xe s
def tCmp (p : Int → Int → Bool) (ta tb : TE) : TE := fun σ H Q => t2I ta tb (fun i j H2 => Q (.bl (p i j)) H2) σ H
abbrev tLt : TE → TE → TE := tCmp fun i j => decide (i < j)
abbrev tLe : TE → TE → TE := tCmp fun i j => decide (i ≤ j)
abbrev tGt : TE → TE → TE := tCmp fun i j => decide (j < i)
abbrev tGe : TE → TE → TE := tCmp fun i j => decide (j ≤ i)
abbrev tEqI : TE → TE → TE := tCmp fun i j => decide (i = j)
abbrev tNeI : TE → TE → TE := tCmp fun i j => !decide (i = j)
/-- is None -/
def tIsN (ta : TE) : TE := fun σ H Q => ta σ H fun x H1 => Q (.bl (decide (x = .non))) H1
def tNotN (ta : TE) : TE := fun σ H Q => ta σ H fun x H1 => Q (.bl (!decide (x = .non))) H1
/-- a comparison as a value, as a test -/
def tB (t : TE) : TT := fun σ H Q => t σ H fun x H1 => ∃ c, x = .bl c ∧ Q c H1
theorem pt_cmp {op : CmpOp} {t : TE} (h : PC X op a b t) (h1 : behindInMarks op b = false := by first | exact nobehind _ (by decide) (by decide) | rfl) : PT X (.Compare a [op] [b] pos) (tB t) := by
  intro pins s σ H Q I hw
  refine wpAny_isTrue_Compare1 (thn (h pins s σ H _ I hw) fun v s1 h1 => thn h1 fun u s2 h2 => thn h2 fun c s3 ⟨x, H1, I1, r1, q1⟩ => ?_) h1
  obtain ⟨d, rfl, q⟩ := q1
  cases r1
  exact wpAny_truthy_bool ⟨H1, I1, q⟩
/-- an expression whose value is a bool, as a test -/
theorem pt_val {e : Expr} {t : TE} (h : PE X e t) (he : ∀ whole, isTrue e X.env whole = (do let v ← whole; standAt e.pos; holding [v] (truthy v)) := by intro _; rfl) : PT X e (tB t) := by
  intro pins s σ H Q I hw
  refine isTrue_plain (thn (h pins s σ H _ I hw) fun v s1 ⟨x, H1, I1, r1, q1⟩ => ?_) (he _)
  obtain ⟨d, rfl, q⟩ := q1
  cases r1
  exact wpAny_truthy_bool ⟨H1, I1, q⟩

/-! ### and, or, not -/
variable {tA tB' : TT} {rest : List Expr}
def tAnd (t u : TT) : TT := fun σ H Q => t σ H fun c H1 => if c = true then u σ H1 Q else Q false H1
def tOr (t u : TT) : TT := fun σ H Q => t σ H fun c H1 => if c = true then Q true H1 else u σ H1 Q
def tNot (t : TT) : TT := fun σ H Q => t σ H fun c H1 => Q (!c) H1
theorem pw_and1 (ha : PT X a tA) : PW X (.BoolOp .And [a] pos) tA := by
  intro wh pins s σ H Q I h
  refine isTrue_and (thn (ha pins s σ H Q I h) fun c s1 e => ?_)
  cases c with
  | true => exact isTrue_and_nil e
  | false => exact e
theorem pw_or1 (ha : PT X a tA) : PW X (.BoolOp .Or [a] pos) tA := by
  intro wh pins s σ H Q I h
  refine isTrue_or (thn (ha pins s σ H Q I h) fun c s1 e => ?_)
  cases c with
  | false => exact isTrue_or_nil e
  | true => exact e
theorem pw_and (ha : PT X a tA) (hb : PW X (.BoolOp .And (b :: rest) pos) tB') : PW X (.BoolOp .And (a :: b :: rest) pos) (tAnd tA tB') := by
  intro wh pins s σ H Q I h
  refine isTrue_and (thn (ha pins s σ H _ I h) fun c s1 ⟨H1, I1, q1⟩ => ?_)
  cases c with
  | true => exact hb wh pins s1 σ H1 Q I1 q1
  | false => exact ⟨H1, I1, q1⟩
theorem pw_or (ha : PT X a tA) (hb : PW X (.BoolOp .Or (b :: rest) pos) tB') : PW X (.BoolOp .Or (a :: b :: rest) pos) (tOr tA tB') := by
  intro wh pins s σ H Q I h
  refine isTrue_or (thn (ha pins s σ H _ I h) fun c s1 ⟨H1, I1, q1⟩ => ?_)
  cases c with
  | true => exact ⟨H1, I1, q1⟩
  | false => exact hb wh pins s1 σ H1 Q I1 q1
theorem pt_not (ha : PT X a tA) : PT X (.UnaryOp .Not a pos) (tNot tA) := by
  intro pins s σ H Q I h
  exact isTrue_not (ha pins s σ H (fun c H1 => Q (!c) H1) I h)
/-- .. as values (bools) -/
def tAndV (ta tb : TE) : TE := fun σ H Q => ta σ H fun x H1 => ∃ c, x = .bl c ∧ if c = true then tb σ H1 Q else Q (.bl false) H1
def tOrV (ta tb : TE) : TE := fun σ H Q => ta σ H fun x H1 => ∃ c, x = .bl c ∧ if c = true then Q (.bl true) H1 else tb σ H1 Q
def tNotV (ta : TE) : TE := fun σ H Q => ta σ H fun x H1 => ∃ c, x = .bl c ∧ Q (.bl (!c)) H1
theorem pe_one {op} {t : TE} (h : PE X a t) : PE X (.BoolOp op [a] pos) t := fun pins s σ H Q I hw => BoolOp_one (h pins s σ H Q I hw)
theorem pe_and (ha : PE X a ta) (hb : PE X (.BoolOp .And (b :: rest) pos) tb) : PE X (.BoolOp .And (a :: b :: rest) pos) (tAndV ta tb) := by
  intro pins s σ H Q I h
  refine BoolOp_and (thn (ha pins s σ H _ I h) fun v s1 ⟨x, H1, I1, r1, q1⟩ => ?_)
  obtain ⟨c, rfl, q1⟩ := q1
  cases r1
  refine wpAny_truthy_bool ?_
  cases c with
  | true => exact hb pins s1 σ H1 Q I1 q1
  | false => exact ⟨.bl false, H1, I1, rfl, q1⟩
theorem pe_not (ha : PE X a ta) : PE X (.UnaryOp .Not a pos) (tNotV ta) := by
  intro pins s σ H Q I h
  refine UnaryOp_ (thn (ha pins s σ H _ I h) fun v s1 ⟨x, H1, I1, r1, q1⟩ => ?_)
  obtain ⟨c, rfl, q1⟩ := q1
  cases r1
  exact not_of (wpAny_truthy_bool ⟨.bl (!c), H1, I1, rfl, q1⟩)
/-- a if t else b -/
def tIf (t : TT) (ta tb : TE) : TE := fun σ H Q => t σ H fun c H1 => if c = true then ta σ H1 Q else tb σ H1 Q
theorem pe_ifExp {c : Expr} (hc : PT X c tA) (ha : PE X a ta) (hb : PE X b tb) : PE X (.IfExp c a b pos) (tIf tA ta tb) := by
  intro pins s σ H Q I h
  refine wpAny_IfExp (thn (hc pins s σ H _ I h) fun d s1 ⟨H1, I1, q1⟩ => ?_)
  cases d with
  | true => exact ha pins s1 σ H1 Q I1 q1
  | false => exact hb pins s1 σ H1 Q I1 q1
end
end L2

namespace L2
open PySem PySem.Spec PyProof.Rows

/-! ### a list, a tuple that is read: tracked, frozen, or an object of the module -/
def SqL (K : PySem.W.Frag) (H : Hp) (a : Addr) (xs : List V) : Prop :=
  Rd H a (.lst xs) ∨
    ∃ (o : Obj) (its : Array Value) (n : Nat), K.lookup a = some o ∧ o.cls = .type "list" ∧ o.dict = none ∧ o.data = .seq its n ∧ its.size ≤ sizeLine ∧ Vals xs its.toList
def SqT (K : PySem.W.Frag) (H : Hp) (a : Addr) (xs : List V) : Prop :=
  Rd H a (.tup xs) ∨
    ∃ (o : Obj) (its : Array Value) (n : Nat), K.lookup a = some o ∧ o.cls = .type "tuple" ∧ o.data = .seq its n ∧ its.size ≤ sizeLine ∧ Vals xs its.toList
def absV : Value → Option V
  | .none => some .non
  | .bool b => some (.bl b)
  | .int i _ => some (.int i)
  | .str x _ => some (.str x)
  | .bytes b _ => some (.byt b)
  | .float b _ => some (.flt b)
  | .ref a => some (.ref a)
  | .type n => some (.ty n)
  | _ => none
theorem RelV.abs {x : V} {u : Value} (r : RelV x u) : absV u = some x := by
  cases x with
  | non => cases r; rfl
  | bl _ => cases r; rfl
  | int _ => obtain ⟨t, rfl⟩ := r; rfl
  | str _ => obtain ⟨t, rfl⟩ := r; rfl
  | byt _ => obtain ⟨t, rfl⟩ := r; rfl
  | flt _ => obtain ⟨t, rfl⟩ := r; rfl
  | ref _ => cases r; rfl
  | ty _ => cases r; rfl
theorem RelV.inj {x y : V} {u : Value} (r : RelV x u) (q : RelV y u) : x = y := Option.some.inj (r.abs.symm.trans q.abs)
theorem Vals.inj : ∀ {xs ys : List V} {us : List Value}, Vals xs us → Vals ys us → xs = ys
  | _, _, _, .nil, .nil => rfl
  | _, _, _, .cons r t, .cons r' t' => by rw [r.inj r', Vals.inj t t']
section
variable {X : Cx} {pins : List (Addr × Obj)} {σ : St} {H : Hp} {s : Shared} {a : Addr} {xs ys : List V}
theorem SqL.of {K : PySem.W.Frag} (h : H a = some (.lst xs)) : SqL K H a xs := .inl (.inl h)
theorem SqT.of {K : PySem.W.Frag} (h : H a = some (.tup xs)) : SqT K H a xs := .inl (.inl h)
theorem Inv.list (I : Inv X pins σ H s) (h : SqL X.K H a xs) : ∃ its : List Value, Vals xs its ∧ PlainL s.heap a its.toArray ∧ xs.length ≤ sizeLine := by
  rcases h with h | ⟨o, its, n, hk, hc, hd, hs, hz, r⟩
  · obtain ⟨z, its, n, r, e⟩ := h.ok I.hok
    exact ⟨its, r, ⟨_, n, e, rfl, rfl, rfl⟩, z⟩
  · refine ⟨its.toList, r, ⟨o, n, I.kIn a o hk, hc, hd, by simpa using hs⟩, ?_⟩
    have e := r.length
    simp only [Array.length_toList] at e
    omega
theorem Inv.tuple (I : Inv X pins σ H s) (h : SqT X.K H a xs) : ∃ its : List Value, Vals xs its ∧ IsTup s.heap a its.toArray ∧ xs.length ≤ sizeLine := by
  rcases h with h | ⟨o, its, n, hk, hc, hs, hz, r⟩
  · obtain ⟨z, its, r, p⟩ := h.ok I.hok
    exact ⟨its, r, p, z⟩
  · refine ⟨its.toList, r, ⟨o, I.kIn a o hk, hc, n, by simpa using hs⟩, ?_⟩
    have e := r.length
    simp only [Array.length_toList] at e
    omega
theorem Inv.list_inj (I : Inv X pins σ H s) (h : SqL X.K H a xs) (h' : SqL X.K H a ys) : xs = ys := by
  obtain ⟨its, r, ⟨o, n, e, _, _, d⟩, _⟩ := I.list h
  obtain ⟨its', r', ⟨o', n', e', _, _, d'⟩, _⟩ := I.list h'
  rw [e] at e'; cases e'
  rw [d] at d'
  injection d' with d1 _
  have : its = its' := by simpa using congrArg Array.toList d1
  subst this
  exact r.inj r'
theorem Inv.tuple_inj (I : Inv X pins σ H s) (h : SqT X.K H a xs) (h' : SqT X.K H a ys) : xs = ys := by
  obtain ⟨its, r, ⟨o, e, _, n, d⟩, _⟩ := I.tuple h
  obtain ⟨its', r', ⟨o', e', _, n', d'⟩, _⟩ := I.tuple h'
  rw [e] at e'; cases e'
  rw [d] at d'
  injection d' with d1 _
  have : its = its' := by simpa using congrArg Array.toList d1
  subst this
  exact r.inj r'
end

/-! ### another wish about exceptions -/
abbrev Cx.wish (X : Cx) (E : Value → Shared → Prop) : Cx := { X with xe := E }
/-- no exception leaves -/
abbrev Cx.nox (X : Cx) : Cx := X.wish fun _ _ => False
theorem Cx.Ok.wish {X : Cx} (ok : X.Ok) (E : Value → Shared → Prop) : (X.wish E).Ok :=
  ⟨ok.mod, ok.kind, ok.glob, ok.blt, ok.above, ok.inj, ok.has, ok.cab, ok.hd, ok.frames, ok.stk, ok.exf, ok.bs, ok.bsz, ok.noex, ok.exfs, ok.funs, ok.frf⟩
theorem Cx.Ok.unwish {X : Cx} {E : Value → Shared → Prop} (ok : (X.wish E).Ok) : X.Ok :=
  ⟨ok.mod, ok.kind, ok.glob, ok.blt, ok.above, ok.inj, ok.has, ok.cab, ok.hd, ok.frames, ok.stk, ok.exf, ok.bs, ok.bsz, ok.noex, ok.exfs, ok.funs, ok.frf⟩
section
variable {X : Cx} {pins : List (Addr × Obj)} {σ : St} {H : Hp} {s : Shared} {E : Value → Shared → Prop}
theorem Inv.wish (I : Inv X pins σ H s) (E : Value → Shared → Prop) : Inv (X.wish E) pins σ H s := ⟨I.ok.wish E, I.os, I.bare, I.base, I.loc, I.cell, I.free, I.freeC, I.pin, I.hok, I.len⟩
theorem Inv.unwish (I : Inv (X.wish E) pins σ H s) : Inv X pins σ H s := ⟨I.ok.unwish, I.os, I.bare, I.base, I.loc, I.cell, I.free, I.freeC, I.pin, I.hok, I.len⟩
theorem SP.unwish {D : Ends} {f : Flow} {s' : Shared} (h : SP (X.wish E) pins D f s') : SP X pins D f s' := by
  cases f with
  | next => obtain ⟨σ', H', I, q⟩ := h; exact ⟨σ', H', I.unwish, q⟩
  | brk => obtain ⟨σ', H', I, q⟩ := h; exact ⟨σ', H', I.unwish, q⟩
  | cont => obtain ⟨σ', H', I, q⟩ := h; exact ⟨σ', H', I.unwish, q⟩
  | ret u => obtain ⟨v, σ', H', I, r, q⟩ := h; exact ⟨v, σ', H', I.unwish, r, q⟩
theorem PSs.nox {st : List Stmt} {t : TS} (h : PSs X.nox st t) : PSs X st t := fun pins s σ H D I hw =>
  wpAny_mono (h pins s σ H D (I.wish _) hw) (fun _ _ q => q.unwish) fun _ _ z => False.elim z
end

/-! ### blocks and small statements -/
section
variable {X : Cx} {st : Stmt} {rest : List Stmt} {t u : TS} {e : Expr} {te : TE} {pos : Pos}
def tNext : TS := fun D σ H => D.nx σ H
def tSeq (t u : TS) : TS := fun D σ H => t { D with nx := u D } σ H
theorem pss_nil : PSs X [] tNext := fun _ _ σ H _ I h => wpAny_execs_nil ⟨σ, H, I, h⟩
theorem pss_cons (h1 : PS X st t) (h2 : PSs X rest u) : PSs X (st :: rest) (tSeq t u) := by
  intro pins s σ H D I h
  refine wpAny_execs_cons (thn (h1 pins s σ H { D with nx := u D } I h) fun f s1 q => ?_)
  cases f with
  | next =>
    obtain ⟨σ', H', I', q⟩ := q
    exact h2 pins s1 σ' H' D I' q
  | ret v => exact q
  | brk => exact q
  | cont => exact q
theorem pss_one (h1 : PS X st t) : PSs X [st] t := by
  intro pins s σ H D I h
  refine wpAny_execs_cons (thn (h1 pins s σ H D I h) fun f s1 q => ?_)
  cases f with
  | next => exact wpAny_execs_nil q
  | ret v => exact q
  | brk => exact q
  | cont => exact q
def tBreak : TS := fun D σ H => D.bk σ H
def tCont : TS := fun D σ H => D.ct σ H
/-- in a def's body nothing is shown -/
theorem Inv.quiet {pins : List (Addr × Obj)} {σ : St} {H : Hp} {s : Shared} (I : Inv X pins σ H s) : interactive X.env = false := by simp [interactive, I.ok.kind]
/-- an expression whose value is dropped -/
def tDrop (te : TE) : TS := fun D σ H => te σ H fun _ H1 => D.nx σ H1
theorem ps_expr (he : PE X e te) (hs : swapsWith e none pos.line X.env = pure false := by rfl) : PS X (.Expr e pos) (tDrop te) := by
  intro pins s σ H D I h
  exact wpAny_Expr_any (thn (he pins s σ H _ I h) fun v s1 ⟨x, H1, I1, r1, q1⟩ => ⟨σ, H1, I1, q1⟩) I.quiet hs
def tRet (te : TE) : TS := fun D σ H => te σ H D.rt
theorem ps_ret (he : PE X e te) : PS X (.Return (some e) pos) (tRet te) := by
  intro pins s σ H D I h
  exact wpAny_Return_some (thn (he pins s σ H _ I h) fun v s1 ⟨x, H1, I1, r1, q1⟩ => ⟨x, σ, H1, I1, r1, q1⟩)
def tRetN : TS := fun D _ H => D.rt .non H
def tIfS (c : TT) (t u : TS) : TS := fun D σ H => c σ H fun b H1 => if b = true then t D σ H1 else u D σ H1
theorem ps_if {c : Expr} {a b : List Stmt} {tc : TT} (hc : PT X c tc) (ha : PSs X a t) (hb : PSs X b u) : PS X (.If c a b pos) (tIfS tc t u) := by
  intro pins s σ H D I h
  refine wpAny_If (thn (hc pins s σ H _ I h) fun d s1 ⟨H1, I1, q1⟩ => ?_)
  cases d with
  | true => exact ha pins s1 σ H1 D I1 q1
  | false => exact hb pins s1 σ H1 D I1 q1
/-- code that the proof never comes to -/
def tNever : TS := fun _ _ _ => False
theorem ps_never : PS X st tNever := fun _ _ _ _ _ _ h => h.elim
end

/-! ### targets -/
abbrev TG := V → St → Hp → (St → Hp → Prop) → Prop
abbrev TGs := List V → St → Hp → (St → Hp → Prop) → Prop
def PG (X : Cx) (target : Expr) (t : TG) : Prop :=
  ∀ (pins : List (Addr × Obj)) (s : Shared) (σ : St) (H : Hp) (v : V) (u : Value) (Q : St → Hp → Prop), Inv X pins σ H s → RelV v u → t v σ H Q →
    wpAny (model X.prog X.w) X.A (assign target X.env u) (fun _ s' => ∃ σ' H', Inv X pins σ' H' s' ∧ Q σ' H') X.xe s
/-- several targets, one after another -/
def PGs (X : Cx) (ts : List Expr) (t : TGs) : Prop :=
  ∀ (pins : List (Addr × Obj)) (s : Shared) (σ : St) (H : Hp) (vs : List V) (us : List Value) (Q : St → Hp → Prop), Inv X pins σ H s → Vals vs us → t vs σ H Q →
    wpAny (model X.prog X.w) X.A (assignInOrder ((assignEach ts X.env).map (·.2)) us) (fun _ s' => ∃ σ' H', Inv X pins σ' H' s' ∧ Q σ' H') X.xe s
/-- o[i] = v, by values -/
abbrev TSet := V → V → V → Hp → (Hp → Prop) → Prop
def PSet (X : Cx) (t : TSet) : Prop :=
  ∀ (pins : List (Addr × Obj)) (s : Shared) (σ : St) (H : Hp) (o i v : V) (ov iv u : Value) (Q : Hp → Prop), Inv X pins σ H s → RelV o ov → RelV i iv → RelV v u → t o i v H Q →
    wpAny (model X.prog X.w) X.A (setItem ov iv u) (fun _ s' => ∃ H', Inv X pins σ H' s' ∧ Q H') X.xe s
/-- a op= b, by values -/
abbrev TIp := V → V → Hp → VK → Prop
def PIp (X : Cx) (op : Operator) (t : TIp) : Prop :=
  ∀ (pins : List (Addr × Obj)) (s : Shared) (σ : St) (H : Hp) (x y : V) (v u : Value) (Q : VK), Inv X pins σ H s → RelV x v → RelV y u → t x y H Q →
    wpAny (model X.prog X.w) X.A (inplaceOp op v u) (EP X pins σ Q) X.xe s
section
variable {X : Cx} {pos : Pos}
def gName (i : Nat) : TG := fun v σ H Q => Q (σ.set i (some v)) H
theorem pg_name {i : Nat} {x : Str} (hN : X.N.Nodup) (hi : X.N[i]? = some x) (hx : Loc X.env.scope x) (hf : X.fn x = true ∨ X.env.scope.names.lookup x = some .local := by first | exact .inl rfl | exact .inr rfl | assumption) : PG X (.Name x pos) (gName i) := by
  intro pins s σ H v u Q I r h
  exact wpAny_assign_Name (store_ok I hN hi hx r (fun s' I' => ⟨_, H, I', h⟩) hf)
def gNil : TGs := fun vs σ H Q => vs = [] ∧ Q σ H
def gCons (t : TG) (u : TGs) : TGs := fun vs σ H Q => ∃ v r, vs = v :: r ∧ t v σ H fun σ' H' => u r σ' H' Q
theorem pgs_nil : PGs X [] gNil := by
  intro pins s σ H vs us Q I r h
  obtain ⟨e, h⟩ := h
  subst e
  cases r
  exact assignInOrder_nil ⟨σ, H, I, h⟩
theorem pgs_cons {e : Expr} {es : List Expr} {t : TG} {u : TGs} (h1 : PG X e t) (h2 : PGs X es u)
    (hs : (assignEach (e :: es) X.env).map (·.2) = assign e X.env :: (assignEach es X.env).map (·.2) := by rfl) : PGs X (e :: es) (gCons t u) := by
  intro pins s σ H vs us Q I r h
  obtain ⟨v, vr, e1, h⟩ := h
  subst e1
  cases r with
  | cons r rr =>
    rw [hs]
    refine assignInOrder_cons (thn (h1 pins s σ H _ _ _ I r h) fun _ s1 ⟨σ1, H1, I1, q1⟩ => ?_)
    exact h2 pins s1 σ1 H1 _ _ Q I1 rr q1
/-- (a, b, ..) = a tuple of that length -/
def gTup (K : PySem.W.Frag) (n : Nat) (t : TGs) : TG := fun v σ H Q => ∃ a xs, v = .ref a ∧ SqT K H a xs ∧ xs.length = n ∧ t xs σ H Q
theorem pg_tup {es : List Expr} {k : Nat} {t : TGs} {n : Nat} (hc : X.calm = true) (h : PGs X es t)
    (hn : (assignEach es X.env).length = n := by rfl) (hst : (assignEach es X.env).findIdx? (·.1) = none := by rfl) : PG X (.Tuple es k pos) (gTup X.K n t) := by
  intro pins s σ H v u Q I r hw
  obtain ⟨a, xs, e1, hq, hl, hw⟩ := hw
  subst e1
  cases r
  obtain ⟨its, rv, ht, hz⟩ := I.tuple hq
  refine assign_Tuple_tuple (I.ok.hd hc) ht (by simp [hn, ← hl, rv.length]) hst fun h' hx => ?_
  have I1 : Inv X pins σ H { s with heap := h' } := I.kept (t' := s.toks) fun b o e => hx b o (Nat.ne_of_lt (Heap.lt_size e)) e
  exact h pins _ σ H xs _ Q I1 (by simpa using rv) hw
/-- o[i] = .. -/
def gSub (to ti : TE) (t : TSet) : TG := fun v σ H Q => to σ H fun o H1 => ti σ H1 fun i H2 => t o i v H2 fun H3 => Q σ H3
theorem pg_sub {o i : Expr} {to ti : TE} {t : TSet} (ho : PE X o to) (hi : PE X i ti) (hs : PSet X t)
    (ha : ∀ v, assign (.Subscript o i pos) X.env v = (do
      let ov ← holding [v] (eval o X.env)
      let iv ← holding [v, ov] (eval i X.env)
      standAt pos
      holding [v, ov, iv] (setItem ov iv v)
      release [v, ov, iv] []) := by intro _; rfl) : PG X (.Subscript o i pos) (gSub to ti t) := by
  intro pins s σ H v u Q I r h
  rw [ha]
  refine wpAny_bind (wpAny_holding (thn (ho pins s σ H _ I h) fun ov s1 ⟨x, H1, I1, r1, q1⟩ => ?_))
  refine wpAny_bind (wpAny_holding (thn (hi pins s1 σ H1 _ I1 q1) fun iv s2 ⟨y, H2, I2, r2, q2⟩ => ?_))
  refine wpAny_bind (wpAny_standAt (wpAny_bind (wpAny_holding (thn (hs pins s2 σ H2 x y v ov iv u _ I2 r1 r2 r q2) fun _ s3 ⟨H3, I3, q3⟩ => ?_))))
  exact wpAny_release ⟨σ, H3, I3, q3⟩
/-- target = value -/
def tAsg (te : TE) (g : TG) : TS := fun D σ H => te σ H fun x H1 => g x σ H1 D.nx
theorem ps_asg {tg e : Expr} {te : TE} {g : TG} (he : PE X e te) (hg : PG X tg g) (hs : swapsWithSole [tg] e pos.line X.env = pure false := by rfl) (hw : swappedStores [tg] e X.env = pure none := by rfl)
    (h1 : (assignEach [tg] X.env).map (·.2) = [assign tg X.env] := by rfl) : PS X (.Assign [tg] e pos) (tAsg te g) := by
  intro pins s σ H D I h
  refine wpAny_Assign_stores (thn (he pins s σ H _ I h) fun v s1 ⟨x, H1, I1, r1, q1⟩ => ?_) hs hw
  rw [h1]
  exact thn (hg pins s1 σ H1 x v _ I1 r1 q1) fun _ s2 q => q
/-- name = value -/
theorem ps_set {i : Nat} {x : Str} {e : Expr} {te : TE} {pos' : Pos} (hN : X.N.Nodup) (hi : X.N[i]? = some x) (hx : Loc X.env.scope x) (he : PE X e te) (hs : swapsWith e (some (.Name x pos')) pos.line X.env = pure false := by rfl) (hf : X.fn x = true ∨ X.env.scope.names.lookup x = some .local := by first | exact .inl rfl | exact .inr rfl | assumption) :
    PS X (.Assign [.Name x pos'] e pos) (tAsg te (gName i)) := by
  intro pins s σ H D I h
  refine wpAny_Assign_Name (thn (he pins s σ H _ I h) fun v s1 ⟨y, H1, I1, r1, q1⟩ => ?_) hs
  exact store_ok I1 hN hi hx r1 (fun s2 I2 => ⟨_, H1, I2, q1⟩) hf
/-- a, b = x, y with plain local names: stored from the right; the pair itself is not tracked (the opening rows as in PyProof/Rows/TupAssign.lean:23) -/
def tPar (i j : Nat) (ta : TA) : TS := fun D σ H => ta σ H fun vs H1 => ∃ v w, vs = [v, w] ∧ D.nx ((σ.set i (some v)).set j (some w)) H1
/-- name op= e -/
def tAug (i : Nat) (te : TE) (ti : TIp) : TS := fun D σ H => ∃ x, σ[i]? = some (some x) ∧ te σ H fun y H1 => ti x y H1 fun z H2 => D.nx (σ.set i (some z)) H2
theorem ps_aug {i : Nat} {x : Str} {e : Expr} {te : TE} {op : Operator} {ti : TIp} {pos' : Pos} (hN : X.N.Nodup) (hi : X.N[i]? = some x) (hx : Loc X.env.scope x) (he : PE X e te) (ho : PIp X op ti) (hf : X.fn x = true ∨ X.env.scope.names.lookup x = some .local := by first | exact .inl rfl | exact .inr rfl | assumption) :
    PS X (.AugAssign (.Name x pos') op e pos) (tAug i te ti) := by
  intro pins s σ H D I h
  obtain ⟨v, e1, h⟩ := h
  obtain ⟨m, hn, hl⟩ := I.loc
  have vis : Vis X.env.scope x := by rcases hx with k | k; exact .inl k; exact .inr (.inl k)
  obtain ⟨u, r, l⟩ := hl i x v hi e1 vis
  refine wpAny_AugAssign_Name ?_
  have go : wpAny (model X.prog X.w) X.A (eval e X.env) (fun w s₂ => wpAny (model X.prog X.w) X.A (inplaceOp op u w) (fun r s₃ => wpAny (model X.prog X.w) X.A (storeName X.env x r) (fun _ => SP X pins D .next) X.xe s₃) X.xe s₂) X.xe s := by
    refine thn (he pins s σ H _ I h) fun w s1 ⟨y, H1, I1, r1, q1⟩ => ?_
    refine thn (ho pins s1 σ H1 v y u w _ I1 r r1 q1) fun z s2 ⟨zv, H2, I2, r2, q2⟩ => ?_
    exact store_ok I2 hN hi hx r2 (fun s3 I3 => ⟨_, H2, I3, q2⟩) hf
  rcases l with ⟨hk, hm⟩ | ⟨hk, c, hc, hcell⟩
  · exact wpAny_loadName_local I.ok.kind hk hn hm go
  · rcases hk with hk | hk
    · exact wpAny_loadName_cell I.ok.kind hk hc hcell go
    · rcases hx with k | k
      · have : X.env.scope.names.lookup x = some .free := hk
        rw [k] at this; cases this
      · have : X.env.scope.names.lookup x = some .free := hk
        rw [k] at this; cases this
/-- o[i] op= e -/
def tAugS (to ti te : TE) (tget : V → V → Hp → VK → Prop) (tip : TIp) (tset : TSet) : TS := fun D σ H => to σ H fun o H1 => ti σ H1 fun i H2 => tget o i H2 fun x H3 => te σ H3 fun y H4 => tip x y H4 fun z H5 => tset o i z H5 fun H6 => D.nx σ H6
/-- o[i], by values -/
def PGet (X : Cx) (t : V → V → Hp → VK → Prop) : Prop :=
  ∀ (pins : List (Addr × Obj)) (s : Shared) (σ : St) (H : Hp) (o i : V) (ov iv : Value) (Q : VK), Inv X pins σ H s → RelV o ov → RelV i iv → t o i H Q →
    wpAny (model X.prog X.w) X.A (getItem ov iv) (EP X pins σ Q) X.xe s
/-- ints -/
def ipI (f : Int → Int → Int) : TIp := fun x y H Q => ∃ i j, x = .int i ∧ y = .int j ∧ Q (.int (f i j)) H
theorem ip_add : PIp X .Add (ipI fun i j => i + j) := by
  intro pins s σ H x y v u Q I r1 r2 h
  obtain ⟨i, j, e1, e2, q⟩ := h
  subst e1; subst e2
  obtain ⟨t, rfl⟩ := r1
  obtain ⟨t', rfl⟩ := r2
  exact iadd_int ⟨.int _, H, I.tok _, ⟨_, rfl⟩, q⟩
end

/-! ### while -/
section
variable {X : Cx} {pos : Pos}
/-- the invariant W with its measure -/
def tWhile (c : TT) (tb : TS) : TS := fun D σ H => ∃ W : Nat → St → Hp → Prop, (∃ m, W m σ H) ∧ ∀ m σ H, W m σ H →
  c σ H fun b H1 => if b = true then ∃ N : St → Hp → Prop, (∀ σ' H', N σ' H' → ∃ m', m' < m ∧ W m' σ' H') ∧ tb { D with nx := N, ct := N, bk := D.nx } σ H1 else D.nx σ H1
theorem ps_while {c : Expr} {body : List Stmt} {tc : TT} {tb : TS} (hp : PassesOwn (model X.prog X.w) X.A X.env X.xe) (hc : PT X c tc) (hb : PSs X body tb) : PS X (.While c body [] pos) (tWhile tc tb) := by
  intro pins s σ H D I h
  obtain ⟨W, ⟨m0, w0⟩, turn⟩ := h
  refine wpAny_While (codeAny_whileLoop (fun n s' => ∃ σ' H', Inv X pins σ' H' s' ∧ W n σ' H') ?_ m0 ⟨σ, H, I, w0⟩)
  rintro n s1 ⟨σ1, H1, I1, w1⟩
  refine wpAny_passesOwn hp (thn (hc pins s1 σ1 H1 _ I1 (turn n σ1 H1 w1)) fun b s2 ⟨H2, I2, q2⟩ => ?_)
  cases b with
  | true =>
    obtain ⟨N, hN, q2⟩ := q2
    rw [if_pos rfl]
    refine wpAny_passesOwn hp (thn (hb pins s2 σ1 H2 _ I2 q2) fun f s3 q3 => ?_)
    cases f with
    | next =>
      obtain ⟨σ3, H3, I3, n3⟩ := q3
      obtain ⟨m', hm, w3⟩ := hN σ3 H3 n3
      exact ⟨m', hm, σ3, H3, I3, w3⟩
    | cont =>
      obtain ⟨σ3, H3, I3, n3⟩ := q3
      obtain ⟨m', hm, w3⟩ := hN σ3 H3 n3
      exact ⟨m', hm, σ3, H3, I3, w3⟩
    | brk => exact q3
    | ret v => exact q3
  | false =>
    rw [if_neg Bool.false_ne_true]
    exact wpAny_execs_nil ⟨σ1, H2, I2, q2⟩
end

/-! ### what a loop or a comprehension walks -/
/-- at turn i: it yields x (the heap may grow), or it stops -/
structure It where
  go : Nat → Hp → Prop
  yld : Nat → Hp → V → Hp → Prop
  stop : Nat → Hp → Prop
/-- the iterator's own objects may turn: they are not the frame's, not pinned, younger than the entry (or a comprehension's own) -/
def FpOk (X : Cx) (pins : List (Addr × Obj)) (H : Hp) (b : Addr) : Prop :=
  H b = none ∧ b ≠ X.env.locals ∧ b ∉ X.fs ∧ (b ∈ X.ex ∨ X.s₀.heap.objs.size ≤ b) ∧ (∀ x c, X.env.cells.lookup x = some c → c ≠ b) ∧ ∀ p ∈ X.pn ++ pins, p.1 ≠ b
theorem Inv.fpOk {X : Cx} {pins : List (Addr × Obj)} {σ : St} {H H' : Hp} {s : Shared} {b : Addr} (I : Inv X pins σ H s) (hb : s.heap.objs.size ≤ b) (hn : H' b = none) : FpOk X pins H' b := by
  refine ⟨hn, Nat.ne_of_gt (Nat.lt_of_lt_of_le I.lt hb), I.nofs hb, .inr (Nat.le_trans I.sz hb), fun x c e z => ?_, fun p hp z => ?_⟩
  · obtain ⟨v, q⟩ := I.cell x c e
    exact absurd (Nat.lt_of_lt_of_le q.lt (by rw [z]; exact hb)) (Nat.lt_irrefl _)
  · exact absurd (Nat.lt_of_lt_of_le (Heap.lt_size (I.pin p hp).1) (by rw [z]; exact hb)) (Nat.lt_irrefl _)
structure Turn (P : Program) (w : World) (K : PySem.W.Frag) (tg : Expr) (J : It) (fp : List Addr) (it : Addr) (tn : Nat → Heap → Prop) : Prop where
  mem : it ∈ fp
  obj : ∀ i h, tn i h → ∀ b ∈ fp, ∃ o, h.get? b = some o ∧ ∀ v, o.data ≠ .cell v
  keep : ∀ i h h', tn i h → (∀ b ∈ fp, ∀ o, h.get? b = some o → h'.get? b = some o) → tn i h'
  item : ∀ (X : Cx), X.prog = P → X.w = w → X.K = K → X.calm = true → ∀ (i : Nat) (pins : List (Addr × Obj)) (s : Shared) (σ : St) (H : Hp) (E : Value → Shared → Prop), Inv X pins σ H s → (∀ b ∈ fp, FpOk X pins H b) → tn i s.heap → J.go i H →
    wpAny (model P w) X.A (pyNext (.ref it)) (fun r s1 => ∃ u, r = some u ∧
      wpAny (model P w) X.A (letOwnedTupleGo tg (.ref it) u) (fun _ s2 => ∃ x H', Inv X pins σ H' s2 ∧ RelV x u ∧ J.yld i H x H' ∧ tn (i + 1) s2.heap ∧ ∀ b ∈ fp, H' b = none) E s1) E s
  done : ∀ (X : Cx), X.prog = P → X.w = w → X.K = K → X.calm = true → ∀ (i : Nat) (pins : List (Addr × Obj)) (s : Shared) (σ : St) (H : Hp) (E : Value → Shared → Prop), Inv X pins σ H s → (∀ b ∈ fp, FpOk X pins H b) → tn i s.heap → J.stop i H →
    wpAny (model P w) X.A (pyNext (.ref it)) (fun r s1 => r = none ∧ Inv X pins σ H s1) E s
  self : ∀ (A : Around) (i : Nat) (s : Shared) (Q : Value → Shared → Prop) (E : Value → Shared → Prop), tn i s.heap → Q (.ref it) s → wpAny (model P w) A (pyIter (.ref it)) Q E s
abbrev TI := St → Hp → (It → Hp → Prop) → Prop
/-- an iterator has come -/
def PIE (X : Cx) (pins : List (Addr × Obj)) (σ : St) (tg : Expr) (R : It → Hp → Prop) (itv : Value) (s2 : Shared) : Prop :=
  ∃ (it : Addr) (fp : List Addr) (tn : Nat → Heap → Prop) (J : It) (H' : Hp), itv = .ref it ∧ Inv X pins σ H' s2 ∧ Turn X.prog X.w X.K tg J fp it tn ∧ tn 0 s2.heap ∧ (∀ b ∈ fp, FpOk X pins H' b) ∧ R J H'
def PI (X : Cx) (tg iter : Expr) (wi : TI) : Prop :=
  ∀ (pins : List (Addr × Obj)) (s : Shared) (σ : St) (H : Hp) (R : It → Hp → Prop), Inv X pins σ H s → wi σ H R →
    wpAny (model X.prog X.w) X.A (eval iter X.env) (fun v s1 => wpAny (model X.prog X.w) X.A (pyIter v) (PIE X pins σ tg R) X.xe s1) X.xe s

/-- the step ahead of the store is nothing for an iterator that keeps no tuple -/
theorem go_of {M : Model} {A : Around} {E : Value → Shared → Prop} {s : Shared} {tg : Expr} {it : Addr} {u : Value} {o : Obj} {n : String} {vs : Array Value} {Q : Unit → Shared → Prop} (ho : s.heap.get? it = some o) (hc : o.cls = .type n) (hd : o.data = .fields vs)
    (hn : ["enumerate", "zip", "dict_itemiterator", "dict_reverseitemiterator", "odict_iterator", "itertools.zip_longest", "itertools.pairwise"].contains n = false) (hQ : Q () s) : wpAny M A (letOwnedTupleGo tg (.ref it) u) Q E s := by
  unfold letOwnedTupleGo
  cases tg <;> first
    | exact wpAny_pure hQ
    | (cases u <;> first
        | exact wpAny_pure hQ
        | (refine wpAny_bind (wpAny_load ho ?_)
           rw [hc, hd]
           show wpAny M A (if (["enumerate", "zip", "dict_itemiterator", "dict_reverseitemiterator", "odict_iterator", "itertools.zip_longest", "itertools.pairwise"].contains n && vs[0]? == some (rawInt _)) = true then _ else _) Q E s
           rw [if_neg (by intro h; rw [hn, Bool.false_and] at h; cases h)]
           exact wpAny_pure hQ))

/-- the list at a, as it stands at each turn (a loop may append to it) -/
def Itl (K : PySem.W.Frag) (a : Addr) : It :=
  ⟨fun i H => ∃ xs x, SqL K H a xs ∧ xs[i]? = some x, fun i H x H' => H' = H ∧ ∀ xs, SqL K H a xs → xs[i]? = some x, fun i H => ∃ xs, SqL K H a xs ∧ xs.length ≤ i⟩
def Itt (K : PySem.W.Frag) (a : Addr) : It :=
  ⟨fun i H => ∃ xs x, SqT K H a xs ∧ xs[i]? = some x, fun i H x H' => H' = H ∧ ∀ xs, SqT K H a xs → xs[i]? = some x, fun i H => ∃ xs, SqT K H a xs ∧ xs.length ≤ i⟩
/-- lo, lo + 1, .. (n of them) -/
def Itr (lo : Int) (n : Nat) : It := ⟨fun i _ => i < n, fun i H x H' => H' = H ∧ x = .int (lo + i), fun i _ => n ≤ i⟩
theorem turn_list {P : Program} {w : World} {K : PySem.W.Frag} {tg : Expr} (a it : Addr) : Turn P w K tg (Itl K a) [it] it (fun i h => h.IsListIter it a i) where
  mem := by simp
  obj := fun i h st b hb => by
    have e : b = it := by simpa using hb
    subst e
    obtain ⟨o, e, c, d⟩ := st
    exact ⟨o, e, fun v z => by rw [d] at z; cases z⟩
  keep := fun i h h' st k => st.at fun o e => k it (by simp) o e
  item := by
    intro X hP hw hK hc i pins s σ H E I hf st hg
    subst hP hw hK
    obtain ⟨xs, x, hq, hx⟩ := hg
    obtain ⟨its, rv, p, hz⟩ := I.list hq
    obtain ⟨u, hu, ru⟩ := rv.get hx
    obtain ⟨f0, f1, f2, f3, f4, f5⟩ := hf it (by simp)
    refine wpAny_pyNext_list_item st p.isList (x := u) (by simpa using hu) fun h' st' sb => ?_
    have I1 : Inv X pins σ H { s with heap := h' } := I.turned (t' := s.toks) (fun b o hb e => (sb.2 b hb).trans e) f0 f1 f3 f4 f5
    obtain ⟨o, e, c, d⟩ := id st'
    exact ⟨u, rfl, go_of (s := { s with heap := h' }) e c d (by decide) ⟨x, H, I1, ru, ⟨rfl, fun ys hy => by rw [I.list_inj hy hq]; exact hx⟩, st', fun b hb => (hf b hb).1⟩⟩
  done := by
    intro X hP hw hK hc i pins s σ H E I hf st hg
    subst hP hw hK
    obtain ⟨xs, hq, hx⟩ := hg
    obtain ⟨its, rv, p, hz⟩ := I.list hq
    obtain ⟨f0, f1, f2, f3, f4, f5⟩ := hf it (by simp)
    have hl := rv.length
    exact wpAny_pyNext_list_end (I.ok.hd hc) st p.isList (by simp; omega) fun h' eb => ⟨rfl, I.turned (t' := s.toks) (fun b o hb e => eb b o hb e) f0 f1 f3 f4 f5⟩
  self := fun _ _ _ _ _ st h => wpAny_pyIter_listiter st h
theorem turn_range {P : Program} {w : World} {K : PySem.W.Frag} {tg : Expr} (it : Addr) (lo : Int) (n : Nat) : Turn P w K tg (Itr lo n) [it] it (fun i h => IsRangeIter h it (lo + (i : Nat) * 1) ((n : Int) - (i : Nat)) 1) where
  mem := by simp
  obj := fun i h st b hb => by
    have e : b = it := by simpa using hb
    subst e
    exact ⟨_, st, fun v z => by
      have z' : Data.fields _ = Data.cell v := z
      cases z'⟩
  keep := fun i h h' st k => k it (by simp) _ st
  item := by
    intro X hP hw hK hc i pins s σ H E I hf st hg
    subst hP hw hK
    obtain ⟨f0, f1, f2, f3, f4, f5⟩ := hf it (by simp)
    have W := Walks.range (prog := X.prog) (w := X.w) (I.ok.hd hc) it lo 1 n
    refine W.item i s _ _ hg st fun v h' tk hv st' kk => ?_
    obtain ⟨t, rfl⟩ := hv
    have I1 : Inv X pins σ H { s with heap := h', toks := tk } := I.turned (fun b o hb e => kk b o (by simpa using hb) e) f0 f1 f3 f4 f5
    refine ⟨_, rfl, go_of (s := { s with heap := h', toks := tk }) (n := "range_iterator") st' rfl rfl (by decide) ⟨.int (lo + i), H, I1, ⟨t, ?_⟩, ⟨rfl, rfl⟩, st', fun b hb => (hf b hb).1⟩⟩
    rw [Int.mul_one]
  done := by
    intro X hP hw hK hc i pins s σ H E I hf st hg
    subst hP hw hK
    obtain ⟨f0, f1, f2, f3, f4, f5⟩ := hf it (by simp)
    exact wpAny_pyNext_range_end (I.ok.hd hc) st (by have : n ≤ i := hg; omega) fun h' eb => ⟨rfl, I.turned (t' := s.toks) (fun b o hb e => eb b o hb e) f0 f1 f3 f4 f5⟩
  self := fun _ _ _ _ _ st h => wpAny_pyIter_rangeiter st h
end L2

namespace L2
open PySem PySem.Spec PyProof.Rows
section
variable {X : Cx} {tg : Expr}
def iList (K : PySem.W.Frag) (tl : TE) : TI := fun σ H R => tl σ H fun x H1 => ∃ a, x = .ref a ∧ (∃ xs, SqL K H1 a xs) ∧ R (Itl K a) H1
def iTup (K : PySem.W.Frag) (tl : TE) : TI := fun σ H R => tl σ H fun x H1 => ∃ a, x = .ref a ∧ (∃ xs, SqT K H1 a xs) ∧ R (Itt K a) H1
theorem pi_list {l : Expr} {tl : TE} (hl : PE X l tl) : PI X tg l (iList X.K tl) := by
  intro pins s σ H R I h
  refine thn (hl pins s σ H _ I h) fun v s1 ⟨x, H1, I1, r1, q1⟩ => ?_
  obtain ⟨a, e, ⟨xs, hq⟩, q⟩ := q1
  subst e
  cases r1
  obtain ⟨its, rv, p, hz⟩ := I1.list hq
  refine wpAny_pyIter_list p.isList ?_
  refine ⟨s1.heap.objs.size, [s1.heap.objs.size], _, _, H1, rfl, I1.kept (t' := s1.toks) fun b o e => Heap.get?_push_of_some _ e, turn_list a _, ⟨_, Heap.get?_push_size _ rfl, rfl, rfl⟩, fun b hb => ?_, q⟩
  have e : b = s1.heap.objs.size := by simpa using hb
  subst e
  exact I1.fpOk (Nat.le_refl _) (I1.hok.fresh (Nat.le_refl _))
/-- a range object just made, walked -/
theorem range_it {pins : List (Addr × Obj)} {σ : St} {H : Hp} {s : Shared} {R : It → Hp → Prop} {E : Value → Shared → Prop} {lo hi : Int} {t u v : Tok} {tk : Nat} (I : Inv X pins σ H s) (h1 : -(2 ^ 62) ≤ lo) (h2 : lo < 2 ^ 62) (h3 : -(2 ^ 62) ≤ hi) (h4 : hi < 2 ^ 62)
    (q : R (Itr lo (hi - lo).toNat) H) : wpAny (model X.prog X.w) X.A (pyIter (.ref s.heap.objs.size)) (PIE X pins σ tg R) E { s with heap := s.heap.push { cls := .type "range", data := .fields #[.int lo t, .int hi u, .int 1 v] }, toks := tk } := by
  refine wpAny_pyIter_range (IsRange.new ..) (small_one h1 h2 h3 h4) ?_
  have I1 : Inv X pins σ H { s with heap := s.heap.push { cls := .type "range", data := .fields #[.int lo t, .int hi u, .int 1 v] }, toks := tk } := I.kept fun b o e => Heap.get?_push_of_some _ e
  refine ⟨(s.heap.push { cls := .type "range", data := .fields #[.int lo t, .int hi u, .int 1 v] }).objs.size, [(s.heap.push { cls := .type "range", data := .fields #[.int lo t, .int hi u, .int 1 v] }).objs.size], _, _, H, rfl,
    I1.kept (t' := tk) fun b o e => Heap.get?_push_of_some _ e, turn_range _ lo (hi - lo).toNat, ?_, fun b hb => ?_, q⟩
  · have e1 : lo + ((0 : Nat) : Int) * 1 = lo := by simp
    have e2 : (((hi - lo).toNat : Nat) : Int) - ((0 : Nat) : Int) = Builtin.Range.rangeSize lo hi 1 := by rw [rangeSize_one]; split <;> omega
    show IsRangeIter _ _ (lo + ((0 : Nat) : Int) * 1) ((((hi - lo).toNat : Nat) : Int) - ((0 : Nat) : Int)) 1
    rw [e1, e2]
    exact Heap.get?_push_size _ rfl
  · have e : b = (s.heap.push { cls := .type "range", data := .fields #[.int lo t, .int hi u, .int 1 v] }).objs.size := by simpa using hb
    subst e
    exact I1.fpOk (Nat.le_refl _) (I1.hok.fresh (Nat.le_refl _))
def iRng1 (ta : TA) : TI := fun σ H R => ta σ H fun vs H1 => ∃ j : Int, vs = [.int j] ∧ -(2 ^ 62) ≤ j ∧ j < 2 ^ 62 ∧ R (Itr 0 j.toNat) H1
def iRng2 (ta : TA) : TI := fun σ H R => ta σ H fun vs H1 => ∃ i j : Int, vs = [.int i, .int j] ∧ (-(2 ^ 62) ≤ i ∧ i < 2 ^ 62 ∧ -(2 ^ 62) ≤ j ∧ j < 2 ^ 62) ∧ R (Itr i (j - i).toNat) H1
theorem pi_range1 {a : Expr} {ta : TA} {p pos : Pos} (hg : Gl X "range") (hm : X.mg "range" = none) (ha : PA X [a] ta) (hs : starEach [a] X.env = [(false, eval a X.env)] := by rfl) : PI X tg (.Call (.Name "range" p) [a] [] pos) (iRng1 ta) := by
  intro pins s σ H R I h
  refine Call_ (ld_blt I hg hm boot_range (PyProof.Rows.callWith_type1 (thn (ha pos pins s σ H _ I h) fun us s1 ⟨vs, H1, I1, r1, q1⟩ => ?_) hs rfl))
  obtain ⟨j, e, q1, q2, q⟩ := q1
  subst e
  cases r1 with
  | cons r rr =>
    cases rr
    obtain ⟨t, rfl⟩ := r
    exact call_range_1 (range_it I1 (by omega) (by omega) q1 q2 (by simpa using q))
/-! ### for -/
/-- W: the invariant by the turn and a measure; N: what the body is to reach -/
def tFor (wi : TI) (g : TG) (tb : TS) : TS := fun D σ H => wi σ H fun J H1 => ∃ W : Nat → Nat → St → Hp → Prop, (∃ m, W 0 m σ H1) ∧ ∀ i m σ H, W i m σ H →
  (J.stop i H ∧ D.nx σ H) ∨ (J.go i H ∧ ∃ N : St → Hp → Prop, (∀ σ' H', N σ' H' → ∃ m', m' < m ∧ W (i + 1) m' σ' H') ∧ ∀ x H', J.yld i H x H' → g x σ H' fun σ2 H2 => tb { D with nx := N, ct := N, bk := D.nx } σ2 H2)
/-- the records at fp as they stand -/
def pinsAt (fp : List Addr) (h : Heap) : List (Addr × Obj) := fp.filterMap fun b => (h.get? b).map fun o => (b, o)
theorem mem_pinsAt {fp : List Addr} {h : Heap} {b : Addr} {o : Obj} (hb : b ∈ fp) (e : h.get? b = some o) : (b, o) ∈ pinsAt fp h := List.mem_filterMap.mpr ⟨b, hb, by rw [e]; rfl⟩
theorem of_pinsAt {fp : List Addr} {h : Heap} {p : Addr × Obj} (hp : p ∈ pinsAt fp h) : p.1 ∈ fp ∧ h.get? p.1 = some p.2 := by
  obtain ⟨b, hb, e⟩ := List.mem_filterMap.mp hp
  cases q : h.get? b with
  | none => rw [q] at e; cases e
  | some o =>
    rw [q] at e
    have e' : (b, o) = p := Option.some.inj e
    subst e'
    exact ⟨hb, q⟩
theorem Inv.pinned {pins : List (Addr × Obj)} {σ : St} {H : Hp} {s : Shared} {fp : List Addr} (I : Inv X pins σ H s) (hf : ∀ b ∈ fp, FpOk X pins H b) (ho : ∀ b ∈ fp, ∃ o, s.heap.get? b = some o ∧ ∀ v, o.data ≠ .cell v) : Inv X (pins ++ pinsAt fp s.heap) σ H s :=
  I.pins_of fun p hp => (List.mem_append.mp hp).elim (fun z => I.pin p (List.mem_append_right _ z)) fun z => by
    obtain ⟨hb, e⟩ := of_pinsAt z
    obtain ⟨f0, f1, f2, _⟩ := hf p.1 hb
    obtain ⟨o, e', d⟩ := ho p.1 hb
    rw [e] at e'; cases e'
    exact ⟨e, f0, f1, f2, d⟩
theorem Inv.unpinned {pins pl : List (Addr × Obj)} {σ : St} {H : Hp} {s : Shared} (I : Inv X (pins ++ pl) σ H s) : Inv X pins σ H s := I.pins_of fun p hp => I.pin p (List.mem_append_right _ (List.mem_append_left _ hp))
theorem ps_for {iter : Expr} {body : List Stmt} {wi : TI} {g : TG} {tb : TS} {pos : Pos} (hp : PassesOwn (model X.prog X.w) X.A X.env X.xe) (hc : X.calm = true) (hi : PI X tg iter wi) (hg : PG X tg g) (hb : PSs X body tb)
    (hs : ∀ x, foldedSetIterable iter X.env x = pure x := by intro _; rfl) : PS X (.For tg iter body [] pos) (tFor wi g tb) := by
  intro pins s σ H D I h
  refine wpAny_For (thn (hi pins s σ H _ I h) fun v s1 h1 => thn h1 fun itv s2 h2 => ?_) hs
  obtain ⟨it, fp, tn, J, H2, e, I2, T, st2, f2, W, ⟨m0, w0⟩, turn⟩ := h2
  subst e
  -- what stays true of the iterator's objects through the loop
  have stat : ∀ {H' : Hp}, (∀ b ∈ fp, H' b = none) → ∀ b ∈ fp, FpOk X pins H' b := fun hn b hb => ⟨hn b hb, (f2 b hb).2⟩
  refine codeAny_forLoop_any (fun n s' => ∃ i σ' H', Inv X pins σ' H' s' ∧ tn i s'.heap ∧ (∀ b ∈ fp, H' b = none) ∧ W i n σ' H') ?_ m0 ⟨0, σ, H2, I2, st2, fun b hb => (f2 b hb).1, w0⟩
  rintro n s3 ⟨i, σ3, H3, I3, st3, fr3, w3⟩
  rcases turn i n σ3 H3 w3 with ⟨stop, qn⟩ | ⟨go, N, hN, step⟩
  · refine wpAny_passesOwn hp (thn (T.done X rfl rfl rfl hc i pins s3 σ3 H3 X.xe I3 (stat fr3) st3 stop) fun r s4 ⟨hr, I4⟩ => ?_)
    subst hr
    exact wpAny_execs_nil ⟨σ3, H3, I4, qn⟩
  · refine wpAny_passesOwn hp (thn (T.item X rfl rfl rfl hc i pins s3 σ3 H3 X.xe I3 (stat fr3) st3 go) fun r s4 ⟨u, hr, h4⟩ => ?_)
    subst hr
    refine wpAny_passesOwn hp (thn h4 fun _ s5 ⟨x, H5, I5, r5, y5, st5, fr5⟩ => ?_)
    have I5' := I5.pinned (stat fr5) (T.obj _ _ st5)
    refine wpAny_passesOwn hp (thn (hg _ s5 σ3 H5 x u _ I5' r5 (step x H5 y5)) fun _ s6 ⟨σ6, H6, I6, q6⟩ => ?_)
    refine wpAny_passesOwn hp (thn (hb _ s6 σ6 H6 _ I6 q6) fun f s7 q7 => ?_)
    have again : ∀ {σ7 : St} {H7 : Hp}, Inv X (pins ++ pinsAt fp s5.heap) σ7 H7 s7 → N σ7 H7 → ∃ m, m < n ∧ ∃ i σ' H', Inv X pins σ' H' s7 ∧ tn i s7.heap ∧ (∀ b ∈ fp, H' b = none) ∧ W i m σ' H' := fun {σ7 H7} I7 n7 => by
      obtain ⟨m', hm, w7⟩ := hN σ7 H7 n7
      refine ⟨m', hm, i + 1, σ7, H7, I7.unpinned, T.keep _ _ _ st5 fun b hb o e => (I7.pin (b, o) (List.mem_append_right _ (List.mem_append_right _ (mem_pinsAt hb e)))).1, fun b hb => ?_, w7⟩
      obtain ⟨o, e, d⟩ := T.obj _ _ st5 b hb
      exact (I7.pin (b, o) (List.mem_append_right _ (List.mem_append_right _ (mem_pinsAt hb e)))).2.1
    cases f with
    | next => obtain ⟨σ7, H7, I7, n7⟩ := q7; exact again I7 n7
    | cont => obtain ⟨σ7, H7, I7, n7⟩ := q7; exact again I7 n7
    | brk => obtain ⟨σ7, H7, I7, q7⟩ := q7; exact ⟨σ7, H7, I7.unpinned, q7⟩
    | ret v => obtain ⟨x7, σ7, H7, I7, r7, q7⟩ := q7; exact ⟨x7, σ7, H7, I7.unpinned, r7, q7⟩
end

/-! ### the forms one uses -/
/-- over a list that the body leaves as it is -/
theorem for_list {K : PySem.W.Frag} {a : Addr} {xs : List V} {g : TG} {tb : TS} {D : Ends} {σ : St} {H : Hp} (Pv : Nat → St → Hp → Prop) (h0 : Pv 0 σ H) (hl : ∀ i σ H, i ≤ xs.length → Pv i σ H → SqL K H a xs)
    (hs : ∀ i x σ H, xs[i]? = some x → Pv i σ H → g x σ H fun σ2 H2 => tb { D with nx := Pv (i + 1), ct := Pv (i + 1), bk := D.nx } σ2 H2) (hd : ∀ σ H, Pv xs.length σ H → D.nx σ H) :
    ∃ W : Nat → Nat → St → Hp → Prop, (∃ m, W 0 m σ H) ∧ ∀ i m σ H, W i m σ H →
      ((Itl K a).stop i H ∧ D.nx σ H) ∨ ((Itl K a).go i H ∧ ∃ N : St → Hp → Prop, (∀ σ' H', N σ' H' → ∃ m', m' < m ∧ W (i + 1) m' σ' H') ∧ ∀ x H', (Itl K a).yld i H x H' → g x σ H' fun σ2 H2 => tb { D with nx := N, ct := N, bk := D.nx } σ2 H2) := by
  refine ⟨fun i m σ H => m = xs.length - i ∧ i ≤ xs.length ∧ Pv i σ H, ⟨xs.length, by simp, Nat.zero_le _, h0⟩, ?_⟩
  rintro i m σ H ⟨rfl, hi, p⟩
  have q := hl i σ H hi p
  by_cases hlt : i < xs.length
  · refine .inr ⟨⟨xs, xs[i], q, by simp [hlt]⟩, Pv (i + 1), fun σ' H' p' => ⟨xs.length - (i + 1), by omega, rfl, hlt, p'⟩, fun x H' y => ?_⟩
    obtain ⟨e, y⟩ := y
    subst e
    exact hs i x σ _ (y xs q) p
  · have e : i = xs.length := by omega
    subst e
    exact .inl ⟨⟨xs, q, Nat.le_refl _⟩, hd σ H p⟩
theorem for_range {lo : Int} {n : Nat} {g : TG} {tb : TS} {D : Ends} {σ : St} {H : Hp} (Pv : Nat → St → Hp → Prop) (h0 : Pv 0 σ H)
    (hs : ∀ i σ H, i < n → Pv i σ H → g (.int (lo + i)) σ H fun σ2 H2 => tb { D with nx := Pv (i + 1), ct := Pv (i + 1), bk := D.nx } σ2 H2) (hd : ∀ σ H, Pv n σ H → D.nx σ H) :
    ∃ W : Nat → Nat → St → Hp → Prop, (∃ m, W 0 m σ H) ∧ ∀ i m σ H, W i m σ H →
      ((Itr lo n).stop i H ∧ D.nx σ H) ∨ ((Itr lo n).go i H ∧ ∃ N : St → Hp → Prop, (∀ σ' H', N σ' H' → ∃ m', m' < m ∧ W (i + 1) m' σ' H') ∧ ∀ x H', (Itr lo n).yld i H x H' → g x σ H' fun σ2 H2 => tb { D with nx := N, ct := N, bk := D.nx } σ2 H2) := by
  refine ⟨fun i m σ H => m = n - i ∧ i ≤ n ∧ Pv i σ H, ⟨n, by simp, Nat.zero_le _, h0⟩, ?_⟩
  rintro i m σ H ⟨rfl, hi, p⟩
  by_cases hlt : i < n
  · refine .inr ⟨hlt, Pv (i + 1), fun σ' H' p' => ⟨n - (i + 1), by omega, rfl, hlt, p'⟩, fun x H' y => ?_⟩
    obtain ⟨e, y⟩ := y
    subst e y
    exact hs i σ _ hlt p
  · have e : i = n := by omega
    subst e
    exact .inl ⟨Nat.le_refl _, hd σ H p⟩
end L2

namespace L2
open PySem PySem.Spec PyProof.Rows

abbrev R2 := V → V → Hp → VK → Prop
/-- a two-place operation on values: f is binaryOp op, inplaceOp op or compareOp op -/
def OpR (X : Cx) (f : Value → Value → Sem Value) (r : R2) : Prop :=
  ∀ (pins : List (Addr × Obj)) (s : Shared) (σ : St) (H : Hp) (x y : V) (v u : Value) (Q : VK), Inv X pins σ H s → RelV x v → RelV y u → r x y H Q →
    wpAny (model X.prog X.w) X.A (f v u) (EP X pins σ Q) X.xe s
/-- a one-place operation -/
def UnR (X : Cx) (f : Value → Sem Value) (r : V → Hp → VK → Prop) : Prop :=
  ∀ (pins : List (Addr × Obj)) (s : Shared) (σ : St) (H : Hp) (x : V) (v : Value) (Q : VK), Inv X pins σ H s → RelV x v → r x H Q →
    wpAny (model X.prog X.w) X.A (f v) (EP X pins σ Q) X.xe s
/-- a call of a value that is known (a builtin, a type) with values -/
def CallR (X : Cx) (f : Value) (r : List V → Hp → VK → Prop) : Prop :=
  ∀ (pins : List (Addr × Obj)) (s : Shared) (σ : St) (H : Hp) (xs : List V) (us : List Value) (Q : VK), Inv X pins σ H s → Vals xs us → r xs H Q →
    wpAny (model X.prog X.w) X.A (call f us) (EP X pins σ Q) X.xe s
/-- a value's truth -/
def TruR (X : Cx) (r : V → Hp → (Bool → Hp → Prop) → Prop) : Prop :=
  ∀ (pins : List (Addr × Obj)) (s : Shared) (σ : St) (H : Hp) (x : V) (v : Value) (Q : Bool → Hp → Prop), Inv X pins σ H s → RelV x v → r x H Q →
    wpAny (model X.prog X.w) X.A (truthy v) (TP X pins σ Q) X.xe s

def tOp (r : R2) (ta tb : TE) : TE := fun σ H Q => ta σ H fun x H1 => tb σ H1 fun y H2 => r x y H2 Q
def tUn (r : V → Hp → VK → Prop) (ta : TE) : TE := fun σ H Q => ta σ H fun x H1 => r x H1 Q
/-- ints in, under C, and a value out -/
def rI (C : Int → Int → Prop) (g : Int → Int → V) : R2 := fun x y H Q => ∃ i j, x = .int i ∧ y = .int j ∧ C i j ∧ Q (g i j) H
def rI0 (g : Int → Int → V) : R2 := fun x y H Q => ∃ i j, x = .int i ∧ y = .int j ∧ Q (g i j) H
def rU (g : Int → V) : V → Hp → VK → Prop := fun x H Q => ∃ i, x = .int i ∧ Q (g i) H

section
variable {X : Cx} {a b c : Expr} {ta tb tc : TE} {pos : Pos}

theorem binT (ha : PE X a ta) (hb : PE X b tb) {pins : List (Addr × Obj)} {s : Shared} {σ : St} {H : Hp} {R : V → V → Hp → Prop} (I : Inv X pins σ H s)
    (h : ta σ H fun x H1 => tb σ H1 fun y H2 => R x y H2) {Q : Value → Shared → Prop} {f : Value → Value → Sem Value}
    (hf : ∀ v u s2 x y H2, Inv X pins σ H2 s2 → RelV x v → RelV y u → R x y H2 → wpAny (model X.prog X.w) X.A (f v u) Q X.xe s2) :
    wpAny (model X.prog X.w) X.A (eval a X.env) (fun v s₁ => wpAny (model X.prog X.w) X.A (eval b X.env) (fun u s₂ => wpAny (model X.prog X.w) X.A (f v u) Q X.xe s₂) X.xe s₁) X.xe s := by
  refine thn (ha pins s σ H _ I h) fun v s1 ⟨x, H1, I1, r1, q1⟩ => ?_
  refine thn (hb pins s1 σ H1 _ I1 q1) fun u s2 ⟨y, H2, I2, r2, q2⟩ => ?_
  exact hf v u s2 x y H2 I2 r1 r2 q2

theorem pe_op {op : Operator} {r : R2} (ho : OpR X (binaryOp op) r) (ha : PE X a ta) (hb : PE X b tb) : PE X (.BinOp a op b pos) (tOp r ta tb) := by
  intro pins s σ H Q I h
  exact wpAny_BinOp (binT ha hb I h fun v u s2 x y H2 I2 rx ry q => ho pins s2 σ H2 x y v u Q I2 rx ry q)
/-! ### ints -/
theorem opI {f : Value → Value → Sem Value} {C : Int → Int → Prop} {g : Int → Int → Int}
    (rule : ∀ (i j : Int) (t u : Tok) (s : Shared) (Q : Value → Shared → Prop) (E : Value → Shared → Prop), C i j → Q (.int (g i j) s.toks) { s with toks := s.toks + 1 } → wpAny (model X.prog X.w) X.A (f (.int i t) (.int j u)) Q E s) :
    OpR X f (rI C fun i j => .int (g i j)) := by
  intro pins s σ H x y v u Q I rx ry h
  obtain ⟨i, j, rfl, rfl, hc, q⟩ := h
  obtain ⟨t, rfl⟩ := rx
  obtain ⟨t', rfl⟩ := ry
  exact rule i j t t' s _ _ hc ⟨.int (g i j), H, I.tok _, ⟨_, rfl⟩, q⟩
theorem opI0 {f : Value → Value → Sem Value} {g : Int → Int → Int}
    (rule : ∀ (i j : Int) (t u : Tok) (s : Shared) (Q : Value → Shared → Prop) (E : Value → Shared → Prop), Q (.int (g i j) s.toks) { s with toks := s.toks + 1 } → wpAny (model X.prog X.w) X.A (f (.int i t) (.int j u)) Q E s) :
    OpR X f (rI0 fun i j => .int (g i j)) := by
  intro pins s σ H x y v u Q I rx ry h
  obtain ⟨i, j, rfl, rfl, q⟩ := h
  obtain ⟨t, rfl⟩ := rx
  obtain ⟨t', rfl⟩ := ry
  exact rule i j t t' s _ _ ⟨.int (g i j), H, I.tok _, ⟨_, rfl⟩, q⟩
theorem opB0 {f : Value → Value → Sem Value} {g : Int → Int → Bool}
    (rule : ∀ (i j : Int) (t u : Tok) (s : Shared) (Q : Value → Shared → Prop) (E : Value → Shared → Prop), Q (.bool (g i j)) s → wpAny (model X.prog X.w) X.A (f (.int i t) (.int j u)) Q E s) :
    OpR X f (rI0 fun i j => .bl (g i j)) := by
  intro pins s σ H x y v u Q I rx ry h
  obtain ⟨i, j, rfl, rfl, q⟩ := h
  obtain ⟨t, rfl⟩ := rx
  obtain ⟨t', rfl⟩ := ry
  exact rule i j t t' s _ _ ⟨.bl (g i j), H, I, rfl, q⟩

def CDiv (i j : Int) : Prop := 0 < j ∧ j < 1073741824
def CDivN (i j : Int) : Prop := j ≠ 0 ∧ j.natAbs < 1073741824
def CPow (i j : Int) : Prop := 0 ≤ j ∧ j ≤ 1000000 ∧ i.natAbs < 2 ^ 64
def CMul (i j : Int) : Prop := (-(2 ^ 64) < i ∧ i < 2 ^ 64) ∨ (-(2 ^ 64) < j ∧ j < 2 ^ 64)
theorem CMul.ok {i j : Int} (h : CMul i j) : IntMulOk i j := by
  rcases h with ⟨h1, h2⟩ | ⟨h1, h2⟩
  · exact .of_left (intBits_le_64 h1 h2)
  · exact .of_right (intBits_le_64 h1 h2)
theorem op_add : OpR X (binaryOp .Add) (rI0 fun i j => .int (i + j)) := opI0 fun _ _ _ _ _ _ _ q => add_int q
theorem op_sub : OpR X (binaryOp .Sub) (rI0 fun i j => .int (i - j)) := opI0 fun _ _ _ _ _ _ _ q => sub_int q
theorem op_mul : OpR X (binaryOp .Mult) (rI CMul fun i j => .int (i * j)) := opI fun _ _ _ _ _ _ _ hc q => mul_int q hc.ok
/-- % by a positive divisor of any size -/
theorem op_mod : OpR X (binaryOp .Mod) (rI (fun _ j => 0 < j) fun i j => .int (i % j)) := opI fun i j _ _ _ _ _ hc q => by
  have h1 : (0 : Int) < j := hc
  exact mod_int' (by omega) (by rw [Int.fmod_eq_emod_of_nonneg i (by omega)]; exact q)
theorem op_pow : OpR X (binaryOp .Pow) (rI CPow fun i j => .int (i ^ j.toNat)) := opI fun _ _ _ _ _ _ _ hc q => pow_int_small hc.1 hc.2.1 hc.2.2 q
/-! ### bools among ints: n += (a < b) -/
end

/-! ### comparisons -/
/-- the scalars that == tells apart as data does -/
def scal : V → V → Bool
  | .non, .non => true | .non, .int _ => true | .int _, .non => true | .non, .bl _ => true | .bl _, .non => true | .non, .str _ => true | .str _, .non => true
  | .int _, .int _ => true | .bl _, .bl _ => true | .str _, .str _ => true | .byt _, .byt _ => true
  | .int _, .str _ => true | .str _, .int _ => true | .bl _, .str _ => true | .str _, .bl _ => true
  | _, _ => false
def rEq : R2 := fun x y H Q => scal x y = true ∧ Q (.bl (decide (x = y))) H
def rNe : R2 := fun x y H Q => scal x y = true ∧ Q (.bl (!decide (x = y))) H

theorem dec_int {i j : Int} : decide (V.int i = V.int j) = (i == j) := by
  rw [Bool.eq_iff_iff]
  simp
theorem dec_bl {i j : Bool} : decide (V.bl i = V.bl j) = (i == j) := by
  rw [Bool.eq_iff_iff]
  simp
theorem dec_str {i j : Str} : decide (V.str i = V.str j) = (i == j) := by
  rw [Bool.eq_iff_iff]
  simp
theorem dec_byt {i j : Array UInt8} : decide (V.byt i = V.byt j) = (i.toList == j.toList) := by
  rw [Bool.eq_iff_iff]
  cases i
  cases j
  simp

section
variable {X : Cx} {a b c : Expr} {ta tb tc : TE} {pos : Pos}
theorem fin_bl {pins : List (Addr × Obj)} {σ : St} {H : Hp} {s : Shared} {Q : VK} {k k' : Bool} (I : Inv X pins σ H s) (q : Q (.bl k) H) (e : k = k') : EP X pins σ Q (.bool k') s := by
  subst e
  exact ⟨.bl k, H, I, rfl, q⟩
theorem op_eq : OpR X (compareOp .Eq) rEq := by
  intro pins s σ H x y v u Q I rx ry h
  obtain ⟨hs, q⟩ := h
  cases x with
  | non =>
    cases rx
    cases y with
    | non => cases ry; exact PySem.EqNone.eq_none_none (fin_bl I q (by simp))
    | bl j => cases ry; exact PySem.EqNone.eq_none_bool (fin_bl I q (by simp))
    | int j => obtain ⟨t', rfl⟩ := ry; exact PySem.EqNone.eq_none_int (fin_bl I q (by simp))
    | str j => obtain ⟨t', rfl⟩ := ry; exact PySem.EqNone.eq_none_str (fin_bl I q (by simp))
    | _ => exact absurd (show false = true from hs) Bool.false_ne_true
  | bl i =>
    cases rx
    cases y with
    | non => cases ry; exact PySem.EqNone.eq_bool_none (fin_bl I q (by simp))
    | bl j => cases ry; exact eq_bool (fin_bl I q dec_bl)
    | str j => obtain ⟨t', rfl⟩ := ry; exact PySem.EqMixed.eq_bool_str (fin_bl I q (by simp))
    | _ => exact absurd (show false = true from hs) Bool.false_ne_true
  | int i =>
    obtain ⟨t, rfl⟩ := rx
    cases y with
    | non => cases ry; exact PySem.EqNone.eq_int_none (fin_bl I q (by simp))
    | int j => obtain ⟨t', rfl⟩ := ry; exact eq_int (fin_bl I q dec_int)
    | str j => obtain ⟨t', rfl⟩ := ry; exact PySem.EqMixed.eq_int_str (fin_bl I q (by simp))
    | _ => exact absurd (show false = true from hs) Bool.false_ne_true
  | str i =>
    obtain ⟨t, rfl⟩ := rx
    cases y with
    | non => cases ry; exact PySem.EqNone.eq_str_none (fin_bl I q (by simp))
    | bl j => cases ry; exact PySem.EqMixed.eq_str_bool (fin_bl I q (by simp))
    | int j => obtain ⟨t', rfl⟩ := ry; exact PySem.EqMixed.eq_str_int (fin_bl I q (by simp))
    | str j => obtain ⟨t', rfl⟩ := ry; exact eq_str (fin_bl I q dec_str)
    | _ => exact absurd (show false = true from hs) Bool.false_ne_true
  | byt i =>
    obtain ⟨t, rfl⟩ := rx
    cases y with
    | byt j => obtain ⟨t', rfl⟩ := ry; exact PySem.W.eq_bytes (fin_bl I q dec_byt)
    | _ => exact absurd (show false = true from hs) Bool.false_ne_true
  | _ => cases y <;> exact absurd (show false = true from hs) Bool.false_ne_true
theorem op_ne : OpR X (compareOp .NotEq) rNe := by
  intro pins s σ H x y v u Q I rx ry h
  obtain ⟨hs, q⟩ := h
  cases x with
  | non =>
    cases rx
    cases y with
    | non => cases ry; exact PySem.EqNone.ne_none_none (fin_bl I q (by simp))
    | bl j => cases ry; exact PySem.EqNone.ne_none_bool (fin_bl I q (by simp))
    | int j => obtain ⟨t', rfl⟩ := ry; exact PySem.EqNone.ne_none_int (fin_bl I q (by simp))
    | str j => obtain ⟨t', rfl⟩ := ry; exact PySem.EqNone.ne_none_str (fin_bl I q (by simp))
    | _ => exact absurd (show false = true from hs) Bool.false_ne_true
  | bl i =>
    cases rx
    cases y with
    | non => cases ry; exact PySem.EqNone.ne_bool_none (fin_bl I q (by simp))
    | bl j => cases ry; exact ne_bool (fin_bl I q (congrArg not dec_bl))
    | str j => obtain ⟨t', rfl⟩ := ry; exact PySem.EqMixed.ne_bool_str (fin_bl I q (by simp))
    | _ => exact absurd (show false = true from hs) Bool.false_ne_true
  | int i =>
    obtain ⟨t, rfl⟩ := rx
    cases y with
    | non => cases ry; exact PySem.EqNone.ne_int_none (fin_bl I q (by simp))
    | int j => obtain ⟨t', rfl⟩ := ry; exact ne_int (fin_bl I q (congrArg not dec_int))
    | str j => obtain ⟨t', rfl⟩ := ry; exact PySem.EqMixed.ne_int_str (fin_bl I q (by simp))
    | _ => exact absurd (show false = true from hs) Bool.false_ne_true
  | str i =>
    obtain ⟨t, rfl⟩ := rx
    cases y with
    | non => cases ry; exact PySem.EqNone.ne_str_none (fin_bl I q (by simp))
    | bl j => cases ry; exact PySem.EqMixed.ne_str_bool (fin_bl I q (by simp))
    | int j => obtain ⟨t', rfl⟩ := ry; exact PySem.EqMixed.ne_str_int (fin_bl I q (by simp))
    | str j => obtain ⟨t', rfl⟩ := ry; exact ne_str (fin_bl I q (congrArg not dec_str))
    | _ => exact absurd (show false = true from hs) Bool.false_ne_true
  | byt i =>
    obtain ⟨t, rfl⟩ := rx
    cases y with
    | byt j => obtain ⟨t', rfl⟩ := ry; exact PySem.W.ne_bytes (fin_bl I q (congrArg not dec_byt))
    | _ => exact absurd (show false = true from hs) Bool.false_ne_true
  | _ => cases y <;> exact absurd (show false = true from hs) Bool.false_ne_true

theorem op_lt : OpR X (compareOp .Lt) (rI0 fun i j => .bl (decide (i < j))) := opB0 fun _ _ _ _ _ _ _ q => lt_int q
theorem op_le : OpR X (compareOp .LtE) (rI0 fun i j => .bl (decide (i ≤ j))) := opB0 fun _ _ _ _ _ _ _ q => le_int q
theorem op_gt : OpR X (compareOp .Gt) (rI0 fun i j => .bl (decide (j < i))) := opB0 fun _ _ _ _ _ _ _ q => gt_int q
theorem op_ge : OpR X (compareOp .GtE) (rI0 fun i j => .bl (decide (j ≤ i))) := opB0 fun _ _ _ _ _ _ _ q => ge_int q
/-- is, is not of two objects that are tracked lists or instances -/
def isObj : HO → Bool
  | .lst _ => true
  | .ins _ _ _ => true
  | _ => false
theorem nomark (b : Expr) {op : CmpOp} (h : op ≠ .In := by decide) (h2 : op ≠ .NotIn := by decide) : behindInMarks op b = false := by
  have e1 : (op == CmpOp.In) = false := by cases op <;> first | rfl | exact absurd rfl h
  have e2 : (op == CmpOp.NotIn) = false := by cases op <;> first | rfl | exact absurd rfl h2
  cases b <;> simp [behindInMarks, e1, e2]
/-- a comparison as a value; hm: nomark b, or (for in, not in) by with_unfolding_all rfl -/
theorem pe_cmpR {op : CmpOp} {r : R2} (ho : OpR X (compareOp op) r) (ha : PE X a ta) (hb : PE X b tb) (hm : behindInMarks op b = false) : PE X (.Compare a [op] [b] pos) (tOp r ta tb) := by
  intro pins s σ H Q I h
  exact wpAny_Compare1 (binT ha hb I h fun v u s2 x y H2 I2 rx ry q => ho pins s2 σ H2 x y v u Q I2 rx ry q) hm
/-- a reading of a value as a test -/
def tTest (t : TE) : TT := fun σ H Q => t σ H fun x H' => ∃ k, x = .bl k ∧ Q k H'
theorem pt_cmpR {op : CmpOp} {r : R2} (ho : OpR X (compareOp op) r) (ha : PE X a ta) (hb : PE X b tb) (hm : behindInMarks op b = false) : PT X (.Compare a [op] [b] pos) (tTest (tOp r ta tb)) := by
  intro pins s σ H Q I h
  refine wpAny_isTrue_Compare1 (thn (ha pins s σ H _ I h) fun v s1 ⟨x, H1, I1, r1, q1⟩ => thn (hb pins s1 σ H1 _ I1 q1) fun u s2 ⟨y, H2, I2, r2, q2⟩ =>
    thn (ho pins s2 σ H2 x y v u _ I2 r1 r2 q2) fun c s3 ⟨z, H3, I3, r3, k, e, q3⟩ => ?_) hm
  subst e
  cases r3
  exact wpAny_truthy_bool ⟨H3, I3, q3⟩
/-- a op1 b op2 c -/
def tChain (r r' : R2) (ta tb tc : TE) : TE := fun σ H Q => ta σ H fun x H1 => tb σ H1 fun y H2 => r x y H2 fun z H3 => ∃ k, z = .bl k ∧
  (if k = true then tc σ H3 fun w' H4 => r' y w' H4 Q else Q (.bl false) H3)
theorem pt_chain {op op' : CmpOp} {r r' : R2} (ho : OpR X (compareOp op) r) (ho' : OpR X (compareOp op') r') (ha : PE X a ta) (hb : PE X b tb) (hc : PE X c tc)
    (hm : lastMarks [op, op'] [b, c] = false := by with_unfolding_all rfl) : PT X (.Compare a [op, op'] [b, c] pos) (tTest (tChain r r' ta tb tc)) := by
  intro pins s σ H Q I h
  refine isTrue_chain (thn (ha pins s σ H _ I h) fun v s1 ⟨x, H1, I1, r1, q1⟩ => test_link (thn (hb pins s1 σ H1 _ I1 q1) fun u s2 ⟨y, H2, I2, r2, q2⟩ =>
    thn (ho pins s2 σ H2 x y v u _ I2 r1 r2 q2) fun d s3 ⟨z, H3, I3, r3, k, e, q3⟩ => ?_)) hm
  subst e
  cases r3
  refine wpAny_truthy_bool ?_
  cases k with
  | false =>
    obtain ⟨k', e', q'⟩ := q3
    cases e'
    exact ite_ff ⟨H3, I3, q'⟩
  | true =>
    refine ite_tt (test_last (thn (hc pins s3 σ H3 _ I3 q3) fun w' s4 ⟨z', H4, I4, r4, q4⟩ => thn (ho' pins s4 σ H4 y z' u w' _ I4 r2 r4 q4) fun d' s5 ⟨z2, H5, I5, r5, k2, e2, q5⟩ => ?_))
    subst e2
    cases r5
    exact wpAny_truthy_bool ⟨H5, I5, q5⟩

/-! ### truth -/
/-- a value's truth by the abstract heap -/
def TruV (K : PySem.W.Frag) (x : V) (H : Hp) (k : Bool) : Prop :=
  match x with
  | .non => k = false
  | .bl b => k = b
  | .int i => k = (i != 0)
  | .str y => y.length ≤ sizeLine ∧ k = ((y.length : Int) != 0)
  | .byt y => y.size ≤ sizeLine ∧ k = ((y.size : Int) != 0)
  | .ref p => (∃ xs, SqL K H p xs ∧ k = !xs.isEmpty) ∨ (∃ xs, SqT K H p xs ∧ k = !xs.isEmpty) ∨ ∃ kvs, H p = some (.dK kvs) ∧ k = !kvs.isEmpty
  | _ => False
theorem isEmpty_kv {κ : Type} {kvs : List (κ × V)} {vs : List (κ × Value)} (r : KV kvs vs) : (!vs.isEmpty) = !kvs.isEmpty := by
  cases r <;> rfl
theorem isEmpty_of {xs : List V} {its : List Value} (r : Vals xs its) : (!its.toArray.isEmpty) = !xs.isEmpty := by
  cases r <;> simp
theorem line63 : (sizeLine : Nat) < 2 ^ 63 := by rw [sizeLine_eq]; decide
theorem tru_ok : TruR X (fun x H Q => ∃ k, TruV X.K x H k ∧ Q k H) := by
  intro pins s σ H x v Q I rx h
  obtain ⟨k, e, q⟩ := h
  have hl := line63
  have hs : sizeLine = 16777216 := sizeLine_eq
  cases x with
  | non =>
    cases rx
    have e' : k = false := e
    subst e'
    exact truthy_none ⟨H, I, q⟩
  | bl b =>
    cases rx
    have e' : k = b := e
    subst e'
    exact wpAny_truthy_bool ⟨H, I, q⟩
  | int i =>
    obtain ⟨t, rfl⟩ := rx
    have e' : k = (i != 0) := e
    subst e'
    exact PySem.P.truthy_int ⟨H, I, q⟩
  | str y =>
    obtain ⟨t, rfl⟩ := rx
    obtain ⟨hy, e'⟩ : y.length ≤ sizeLine ∧ k = ((y.length : Int) != 0) := e
    subst e'
    exact PySem.P.truthy_str (by omega) ⟨H, I.tok _, q⟩
  | byt y =>
    obtain ⟨t, rfl⟩ := rx
    obtain ⟨hy, e'⟩ : y.size ≤ sizeLine ∧ k = ((y.size : Int) != 0) := e
    subst e'
    exact PySem.W.truthy_bytes (by omega) ⟨H, I.tok _, q⟩
  | ref p =>
    cases rx
    have e' : (∃ xs, SqL X.K H p xs ∧ k = !xs.isEmpty) ∨ (∃ xs, SqT X.K H p xs ∧ k = !xs.isEmpty) ∨ ∃ kvs, H p = some (.dK kvs) ∧ k = !kvs.isEmpty := e
    rcases e' with ⟨xs, hx, e'⟩ | ⟨xs, hx, e'⟩ | ⟨kvs, hx, e'⟩
    · subst e'
      obtain ⟨its, r, pl, hz⟩ := I.list hx
      have hlen := r.length
      exact wpAny_truthy_list pl.isList (by simp only [List.size_toArray]; omega) ⟨H, I.tok _, by rw [isEmpty_of r]; exact q⟩
    · subst e'
      obtain ⟨its, r, pl, hz⟩ := I.tuple hx
      have hlen := r.length
      exact truthy_tuple pl (by simp only [List.size_toArray]; omega) ⟨H, I.tok _, by rw [isEmpty_of r]; exact q⟩
    · subst e'
      obtain ⟨hz, hS, vs, r, m⟩ : kvs.length ≤ sizeLine ∧ (p == sysModules) = false ∧ ∃ vs, KV kvs vs ∧ s.heap.DictOf (mixKind X.prog X.w) p vs := I.hok p _ hx
      have hlen : kvs.length = vs.length := Paired.length r
      exact wpAny_truthy_dict hS m (by omega) ⟨H, I.tok _, by rw [isEmpty_kv r]; exact q⟩
  | _ => exact (show False from e).elim
/-- any expression whose test is its value's truth (a name, a call, a subscript, a field ..: he by fun _ => rfl) -/
theorem pt_truth (ha : PE X a ta) (he : ∀ whole, isTrue a X.env whole = (do let v ← whole; standAt a.pos; holding [v] (truthy v))) :
    PT X a (fun σ H Q => ta σ H fun x H' => ∃ k, TruV X.K x H' k ∧ Q k H') := by
  intro pins s σ H Q I h
  exact isTrue_plain (thn (ha pins s σ H _ I h) fun v s1 ⟨x, H1, I1, r1, q1⟩ => tru_ok pins s1 σ H1 x v Q I1 r1 q1) (he _)

/-! ### strs and bytes -/
def PlainIxT (b : Expr) : Prop := ∀ o i, subscripted b false o i = operate [o, i] (getItem o i)
/-! ### scalar builtins, by CallR -/
theorem vals1 {x : V} {us : List Value} (r : Vals [x] us) : ∃ u, us = [u] ∧ RelV x u := by
  cases r with
  | cons r1 r2 => cases r2; exact ⟨_, rfl, r1⟩
theorem vals2 {x y : V} {us : List Value} (r : Vals [x, y] us) : ∃ u w', us = [u, w'] ∧ RelV x u ∧ RelV y w' := by
  cases r with
  | cons r1 r2 =>
    cases r2 with
    | cons r3 r4 => cases r4; exact ⟨_, _, rfl, r1, r3⟩
theorem call_int1 : CallR X (.type "int") (fun xs H Q => (∃ i, xs = [.int i] ∧ Q (.int i) H) ∨ ∃ k, xs = [.bl k] ∧ Q (.int (if k then 1 else 0)) H) := by
  intro pins s σ H xs us Q I r h
  rcases h with ⟨i, rfl, q⟩ | ⟨k, rfl, q⟩
  · obtain ⟨u, rfl, t, rfl⟩ := vals1 r
    exact call_int_int ⟨.int i, H, I, ⟨_, rfl⟩, q⟩
  · obtain ⟨u, rfl, r1⟩ := vals1 r
    cases r1
    exact call_int_bool ⟨.int (if k then 1 else 0), H, I.tok _, ⟨_, rfl⟩, q⟩
/-- len of a str, a bytes, a list, a tuple -/
def LenV (K : PySem.W.Frag) (x : V) (H : Hp) (n : Nat) : Prop :=
  match x with
  | .str y => y.length ≤ sizeLine ∧ n = y.length
  | .byt y => y.size ≤ sizeLine ∧ n = y.size
  | .ref p => (∃ xs, SqL K H p xs ∧ n = xs.length) ∨ ∃ xs, SqT K H p xs ∧ n = xs.length
  | _ => False
end
end L2

namespace L2
open PySem PySem.Spec PyProof.Rows

/-! ### an instance, its attributes a map -/
structure ObjM (h : Heap) (x dx C : Addr) (mA : Str → Option Value) : Prop where
  obj : h.get? x = some (PySem.W.instObj C dx)
  ns : h.Ns1 dx mA
  ne : dx ≠ x

theorem lookIn_ns {h : Heap} {dx : Addr} {mA : Str → Option Value} (n : h.Ns1 dx mA) : ∃ od, h.get? dx = some od ∧ ∀ name, PySem.W.lookIn name od = some (mA name) := by
  obtain ⟨o, es, ep, ho, hd, hk, _, hm⟩ := n
  refine ⟨o, ho, fun name => ?_⟩
  have e := hm name
  unfold nsFind findBy at e
  rw [← Array.find?_toList] at e
  unfold PySem.W.lookIn
  rw [hd]
  dsimp only
  split
  · rename_i y q
    rw [q] at e
    exact congrArg some e
  · rename_i q
    rw [q] at e
    have a : es.toList.any (·.refKey) = false := by
      rw [List.any_eq_false]
      intro y hy
      obtain ⟨z, t, hkey⟩ := hk y (Array.mem_toList_iff.mp hy)
      simp [DictEntry.refKey, hkey]
    have a' : ¬ es.toList.any (·.refKey) = true := by rw [a]; exact Bool.false_ne_true
    rw [if_neg a']
    exact congrArg some e

theorem ObjM.look {h : Heap} {x dx C : Addr} {mA : Str → Option Value} (I : ObjM h x dx C mA) : ∃ od, PySem.W.InstAt h x (PySem.W.instObj C dx) C (some od) ∧ ∀ name, PySem.W.lookIn name od = some (mA name) :=
  let ⟨od, ho, hl⟩ := lookIn_ns I.ns
  ⟨od, ⟨I.obj, rfl, rfl, ho⟩, hl⟩

section
variable {prog : Program} {w : World} {A : Around} {E : Value → Shared → Prop} {s : Shared} {K : PySem.W.Frag} {x dx C f : Addr} {mA : Str → Option Value} {name : Str} {v : Value}

end

/-! ### the attributes as a list of pairs -/
def putF (f : Str) (v : V) : List (Str × V) → List (Str × V)
  | [] => [(f, v)]
  | (g, x) :: r => if g = f then (g, v) :: r else (g, x) :: putF f v r
theorem RelO.some_of {v : V} {o : Option Value} (r : RelO (some v) o) : ∃ u, o = some u ∧ RelV v u := by
  cases o with
  | none => exact (show False from r).elim
  | some u => exact ⟨u, rfl, r⟩
section
variable {P : Program} {w : World} {H H' : Hp} {h h' : Heap} {a C dx : Addr} {fs fs' : List (Str × V)}
theorem ins_get (hok : HOk P w H h) (e : H a = some (.ins C dx fs)) : ∃ mA, ObjM h a dx C mA ∧ (∀ f, RelO (fs.lookup f) (mA f)) ∧ PySem.Within mA (fs.map (·.1)) ∧ fs.length ≤ 1000 ∧ H dx = some (.own a) := by
  obtain ⟨d, z, ne, ob, mA, n, r, q⟩ := (show ObjOk P w H h a (.ins C dx fs) from hok a _ e)
  exact ⟨mA, ⟨ob, n, ne⟩, r, q, z, d⟩
end

/-! ### what of the text a class must have -/
structure Cls (K : PySem.W.Frag) (C : Addr) : Prop where
  pg : PySem.W.plainGet K C Str.empty = true
  hd : PySem.W.hasDictIn K C = true
  po : PySem.W.plainOver K C = true
  sa : PySem.W.findIn K (.ref C) "__setattr__" = some (some (.builtin "object.__setattr__"))
theorem Cls.get {K : PySem.W.Frag} {C : Addr} (c : Cls K C) (f : Str) : PySem.W.plainGet K C f = true := c.pg
/-- no class of it has the name -/
def NoAttr (K : PySem.W.Frag) (C : Addr) (f : Str) : Prop := PySem.W.findIn K (.ref C) f = some none
/-- a constant of the class -/
structure Con (K : PySem.W.Frag) (C : Addr) (f : Str) (v : V) (u : Value) : Prop where
  at_ : PySem.W.findIn K (.ref C) f = some (some u)
  rel : RelV v u
  get : PySem.W.specialIn K u "__get__" = some none
  cp : PySem.W.copiedNames.contains f = false
/-- a method: a plain def of the class or of one above it -/
structure Meth (K : PySem.W.Frag) (C : Addr) (m : Str) (f : Addr) : Prop where
  at_ : PySem.W.findIn K (.ref C) m = some (some (.ref f))
  fn : PySem.W.isFn K (.ref f) = true
  kp : PySem.W.keepIn K (.ref f) = true

section
variable {X : Cx} {pins : List (Addr × Obj)} {σ : St} {H : Hp} {s : Shared} {a C dx : Addr} {fs : List (Str × V)} {f : Str} {v : V} {A : Around} {E : Value → Shared → Prop}

end

/-! ### readings and rules -/
/-- e.f, an attribute of the instance -/
def tFld (K : PySem.W.Frag) (ta : TE) (f : Str) : TE := fun σ H Q => ta σ H fun x H1 => ∃ a C dx fs v, x = .ref a ∧ H1 a = some (.ins C dx fs) ∧ Cls K C ∧ NoAttr K C f ∧ fs.lookup f = some v ∧ Q v H1
/-- e.f, a constant of the class -/
def tCon (K : PySem.W.Frag) (ta : TE) (f : Str) : TE := fun σ H Q => ta σ H fun x H1 => ∃ a C dx fs v u, x = .ref a ∧ H1 a = some (.ins C dx fs) ∧ Cls K C ∧ Con K C f v u ∧ fs.lookup f = none ∧ Q v H1
/-- e.f = value -/
def sFld (K : PySem.W.Frag) (ta tv : TE) (f : Str) : TS := fun D σ H => tv σ H fun y H1 => ta σ H1 fun x H2 => ∃ a C dx fs, x = .ref a ∧ H2 a = some (.ins C dx fs) ∧ Cls K C ∧ NoAttr K C f ∧ fs.length < 1000 ∧
  D.nx σ (upd H2 a (.ins C dx (putF f y fs)))
/-- an augmented operator on two values -/
def InOp (X : Cx) (op : Operator) (rd : V → V → Hp → VK → Prop) : Prop :=
  ∀ (pins : List (Addr × Obj)) (s : Shared) (σ : St) (H : Hp) (x y : V) (u v : Value) (Q : VK), Inv X pins σ H s → RelV x u → RelV y v → rd x y H Q → wpAny (model X.prog X.w) X.A (inplaceOp op u v) (EP X pins σ Q) X.xe s
/-- e.f op= value -/
def sFldAug (K : PySem.W.Frag) (ta tv : TE) (rd : V → V → Hp → VK → Prop) (f : Str) : TS := fun D σ H => ta σ H fun x H1 => ∃ a C dx fs v, x = .ref a ∧ H1 a = some (.ins C dx fs) ∧ Cls K C ∧ NoAttr K C f ∧ fs.lookup f = some v ∧
  tv σ H1 fun y H2 => rd v y H2 fun z H3 => ∃ dx' fs', H3 a = some (.ins C dx' fs') ∧ fs'.length < 1000 ∧ D.nx σ (upd H3 a (.ins C dx' (putF f z fs')))

section
variable {X : Cx} {o e value : Expr} {f : Str} {pos pos' tpos : Pos} {ta tv : TE}
def rAdd : V → V → Hp → VK → Prop := fun x y H Q => ∃ i j, x = .int i ∧ y = .int j ∧ Q (.int (i + j)) H
def rSub : V → V → Hp → VK → Prop := fun x y H Q => ∃ i j, x = .int i ∧ y = .int j ∧ Q (.int (i - j)) H
end

/-! ### isinstance -/
section
variable {X : Cx} {pins : List (Addr × Obj)} {σ : St} {H : Hp} {s : Shared} {A : Around} {E : Value → Shared → Prop} {Q : Value → Shared → Prop} {c : Value} {b : Bool}
/-- the type of a value, as the fragment's deciders take it; for an instance its class -/
inductive TyOf (K : PySem.W.Frag) (H : Hp) : V → Value → Prop where
  | non : TyOf K H .non (.type "NoneType")
  | bl (x : Bool) : TyOf K H (.bl x) (.type "bool")
  | int (i : Int) : TyOf K H (.int i) (.type "int")
  | str (x : Str) : TyOf K H (.str x) (.type "str")
  | flt (x : UInt64) : TyOf K H (.flt x) (.type "float")
  | lst {a : Addr} {xs : List V} (e : H a = some (.lst xs)) : TyOf K H (.ref a) (.type "list")
  | frz {a : Addr} {o : Obj} {xs : List V} (e : H a = some (.frz o (.lst xs))) : TyOf K H (.ref a) (.type "list")
  | tup {a : Addr} {xs : List V} (e : H a = some (.tup xs)) : TyOf K H (.ref a) (.type "tuple")
  | dK {a : Addr} {kvs : List (Key × V)} (e : H a = some (.dK kvs)) : TyOf K H (.ref a) (.type "dict")
  | dT {a : Addr} {kvs : List (List Key × V)} (e : H a = some (.dT kvs)) : TyOf K H (.ref a) (.type "dict")
  | ins {a C dx : Addr} {fs : List (Str × V)} (e : H a = some (.ins C dx fs)) (cl : Cls K C) (ha : PySem.W.findIn K (.ref C) "__class__" = some (some (.builtin "object.__class__")))
      (hn : PySem.W.specialIn K (.builtin "object.__class__") "__get__" = some (some (.builtin "getset_descriptor.__get__"))) (htk : PySem.W.takesIn K (.builtin "object.__class__") = some true)
      (hm : PySem.W.mroIn K C (.type "object") = some true) : TyOf K H (.ref a) (.ref C)
/-- isinstance(x, c) for one class c, a built-in or an own one: kitOne's answer -/
theorem isinst_ok {x : V} {u t : Value} (I : Inv X pins σ H s) (rx : RelV x u) (ty : TyOf X.K H x t) (e : PySem.W.kitOne X.K t c = some b) (h : ∀ tk, Q (.bool b) { s with toks := tk }) :
    wpAny (model X.prog X.w) A (call (.builtin "isinstance") [u, c]) Q E s := by
  cases ty with
  | non => cases (show u = Value.none from rx); exact PySem.W.kia_one PySem.W.kitx_none I.kIn True.intro e (fun z => nomatch z) h
  | bl y => cases (show u = Value.bool y from rx); exact PySem.W.kia_one PySem.W.kitx_bool I.kIn True.intro e (fun z => nomatch z) h
  | int i => obtain ⟨t, q⟩ := (show ∃ t, u = Value.int i t from rx); cases q; exact PySem.W.kia_one PySem.W.kitx_int I.kIn True.intro e (fun z => nomatch z) h
  | str y => obtain ⟨t, q⟩ := (show ∃ t, u = Value.str y t from rx); cases q; exact PySem.W.kia_one PySem.W.kitx_str I.kIn True.intro e (fun z => nomatch z) h
  | flt y => obtain ⟨t, q⟩ := (show ∃ t, u = Value.float y t from rx); cases q; exact PySem.W.kia_one PySem.W.kitx_float I.kIn True.intro e (fun z => nomatch z) h
  | @lst a xs ea =>
    cases (show u = Value.ref a from rx)
    obtain ⟨_, _, n, _, h1⟩ := (show ObjOk X.prog X.w H s.heap a (.lst xs) from I.hok a _ ea)
    exact PySem.W.kia_one PySem.W.kitx_list I.kIn ⟨_, h1, rfl⟩ e (fun z => nomatch z) h
  | @frz a ob xs ea =>
    cases (show u = Value.ref a from rx)
    obtain ⟨_, _, _, n, _, h1⟩ := (show ObjOk X.prog X.w H s.heap a (.frz ob (.lst xs)) from I.hok a _ ea)
    exact PySem.W.kia_one PySem.W.kitx_list I.kIn ⟨_, h1, rfl⟩ e (fun z => nomatch z) h
  | @tup a xs ea =>
    cases (show u = Value.ref a from rx)
    obtain ⟨_, _, _, p⟩ := (show ObjOk X.prog X.w H s.heap a (.tup xs) from I.hok a _ ea)
    obtain ⟨o, h1, h2, _⟩ := p
    exact PySem.W.kia_one PySem.W.kitx_tuple I.kIn ⟨o, h1, h2⟩ e (fun z => nomatch z) h
  | @dK a kvs ea =>
    cases (show u = Value.ref a from rx)
    obtain ⟨_, _, vs, _, p⟩ := (show ObjOk X.prog X.w H s.heap a (.dK kvs) from I.hok a _ ea)
    obtain ⟨o, es, ep, h1, h2, _⟩ := p
    exact PySem.W.kia_one PySem.W.kitx_dict I.kIn ⟨o, h1, h2.1⟩ e (fun z => nomatch z) h
  | @dT a kvs ea =>
    cases (show u = Value.ref a from rx)
    obtain ⟨_, _, xs, _, o, es, ep, h1, h2, _⟩ := (show ObjOk X.prog X.w H s.heap a (.dT kvs) from I.hok a _ ea)
    exact PySem.W.kia_one PySem.W.kitx_dict I.kIn ⟨o, h1, h2.1⟩ e (fun z => nomatch z) h
  | @ins a C dx fs ea cl ha hn htk hm =>
    cases (show u = Value.ref a from rx)
    obtain ⟨mA, O, _⟩ := ins_get I.hok ea
    obtain ⟨od, J, _⟩ := O.look
    exact PySem.W.kia_one (PySem.W.kitx_own (cl.get _) cl.hd ha hn htk hm) I.kIn J e (fun z => nomatch z) h
end
end L2

namespace L2
open PySem PySem.Spec PyProof.Rows

/-! ### room -/
structure Room (k : Nat) (A : Around) : Prop where
  hd : A.handled = none
  dp : A.depth + 3 * k + 5 < recursionLimit
  un : A.units + 16 * k + 200 < cLine
  gd : A.guards = some []
theorem Room.mono {j k : Nat} {A : Around} (r : Room k A) (h : j ≤ k) : Room j A := ⟨r.hd, by have := r.dp; omega, by have := r.un; omega, r.gd⟩
theorem Room.deeper {k : Nat} {A : Around} (r : Room (k + 1) A) (env : Env) : Room k (A.deeper env) :=
  ⟨r.hd, by have := r.dp; show A.depth + 1 + 3 * k + 5 < _; omega, by have := r.un; show A.units + 3 + 16 * k + 200 < _; omega, r.gd⟩
theorem Room.depth {k : Nat} {A : Around} (r : Room k A) : A.depth < recursionLimit := by have := r.dp; omega
theorem Room.units {k : Nat} {A : Around} (r : Room k A) : A.units + 64 < cLine := by have := r.un; omega
/-! ### argument lists and displays -/
def tNil : TA := fun _ H Q => Q [] H
def tCons (ta : TE) (tr : TA) : TA := fun σ H Q => ta σ H fun x H1 => tr σ H1 fun xs H2 => Q (x :: xs) H2
section
variable {X : Cx} {e : Expr} {es : List Expr} {te : TE} {t : TA} {pos : Pos}
theorem pa_nil : PA X [] tNil := fun _ _ _ _ H Q I h => Calls.spliced_nil ⟨[], H, I, .nil, h⟩
theorem pa_cons (ha : PE X e te) (hr : PA X es t) (hs : starEach (e :: es) X.env = (false, eval e X.env) :: starEach es X.env := by rfl) : PA X (e :: es) (tCons te t) := by
  intro pos pins s σ H Q I h
  rw [hs]
  show wpAny _ _ (spliced ((false, eval e X.env) :: backTo pos (starEach es X.env))) _ _ s
  refine Calls.spliced_cons (thn (ha pins s σ H _ I h) fun u s1 ⟨x, H1, I1, r1, q1⟩ => ?_)
  exact thn (hr pos pins s1 σ H1 _ I1 q1) fun us s2 ⟨xs, H2, I2, r2, q2⟩ => ⟨x :: xs, H2, I2, .cons r1 r2, q2⟩

/-- a tuple, a list of written items -/
def tTup (t : TA) : TE := fun σ H Q => t σ H fun xs H1 => xs.length ≤ sizeLine ∧ ∀ p, H1 p = none → Q (.ref p) (upd H1 p (.tup xs))
def tLst (t : TA) : TE := fun σ H Q => t σ H fun xs H1 => xs.length ≤ sizeLine ∧ ∀ p, H1 p = none → Q (.ref p) (upd H1 p (.lst xs))
theorem pe_tup {x1} (h : PA X es t) : PE X (.Tuple es x1 pos) (tTup t) := by
  intro pins s σ H Q I hq
  refine wpAny_Tuple_spliced (thn (h pos pins s σ H _ I hq) fun us s1 ⟨xs, H1, I1, r, z, q⟩ => ⟨by rw [← r.length]; exact z, ?_⟩)
  have hf : H1 s1.heap.objs.size = none := I1.hok.fresh (Nat.le_refl _)
  refine ⟨.ref s1.heap.objs.size, upd H1 s1.heap.objs.size (.tup xs), I1.laid (t' := s1.toks) (fun b u e => Heap.get?_push_of_some _ e) (Nat.le_refl _) ?_, rfl, q _ hf⟩
  exact ⟨z, us, r, ⟨_, Heap.get?_push_size _ rfl, rfl, _, rfl⟩⟩
theorem pe_lst (h : PA X es t) : PE X (.List es pos) (tLst t) := by
  intro pins s σ H Q I hq
  refine wpAny_List_spliced (thn (h pos pins s σ H _ I hq) fun us s1 ⟨xs, H1, I1, r, z, q⟩ => ⟨by rw [← r.length]; exact z, ?_⟩)
  have hf : H1 s1.heap.objs.size = none := I1.hok.fresh (Nat.le_refl _)
  refine ⟨.ref s1.heap.objs.size, upd H1 s1.heap.objs.size (.lst xs), I1.laid (t' := s1.toks) (fun b u e => Heap.get?_push_of_some _ e) (Nat.le_refl _) ?_, rfl, q _ hf⟩
  exact ⟨z, us, 0, r, Heap.get?_push_size _ rfl⟩
end

/-! ### what a def promises -/
/-- a def's promise: the bound arguments in the parameters' order, the heap, the wanted end, the wanted exception -/
abbrev Sp := List V → Hp → VK → XK → Prop
/-- how an exception lies behind a call (file 08 gives it): the callers' frames, abstract heap and state ahead of the call, the wish, the exception, the state -/
abbrev CXT := List Env → Hp → Shared → XK → Value → Shared → Prop

/-- the state at a call -/
structure Env0 (P : Program) (w : World) (K : PySem.W.Frag) (mg : Str → Option Value) (base : Heap) (A : Around) (outer : List Env) (s : Shared) (H : Hp) : Prop where
  frames : A.frames = some outer
  mod : Mod K mg base
  bs : ∀ b o, base.get? b = some o → s.heap.get? b = some o ∧ H b = none
  bsz : base.objs.size ≤ s.heap.objs.size
  funs : s.heap.FunFrames base outer
  frf : ∀ b ∈ frs outer, H b = none
  hok : HOk P w H s.heap
  bare : AllBare s.gens
/-- a call's end -/
def CE (outer : List Env) (P : Program) (w : World) (H : Hp) (s : Shared) (Q : VK) (u : Value) (s' : Shared) : Prop :=
  ∃ v H', s'.os = s.os ∧ AllBare s'.gens ∧ Un (frs outer) [] H H' s.heap s'.heap ∧ HOk P w H' s'.heap ∧ RelV v u ∧ Q v H'
def CR (CX : CXT) (outer : List Env) (P : Program) (w : World) (H : Hp) (s : Shared) (Q : VK) (E : XK) (r : Result) (s' : Shared) : Prop :=
  match r with
  | .ok (.ret u) => CE outer P w H s Q u s'
  | .ok _ => False
  | .error e => CX outer H s E e s'
structure FnOk (P : Program) (w : World) (K : PySem.W.Frag) (mg : Str → Option Value) (base : Heap) (CX : CXT) (k : Nat) (f : Addr) (fd : FuncData) (ps : List Str) (sp : Sp) : Prop where
  len : ∀ vs H Q E, sp vs H Q E → vs.length = ps.length
  run : ∀ (A : Around) (outer : List Env) (s : Shared) (H : Hp) (args : Args) (us : List Value) (vs : List V) (Q : VK) (E : XK), Room k A → Env0 P w K mg base A outer s H → BindsTo s fd args (ps.zip us) → Vals vs us → sp vs H Q E →
    codeAny (model P w) A (.call (.ref f) args) (CR CX outer P w H s Q E) s
section
variable {X : Cx} {pins : List (Addr × Obj)} {σ : St} {H : Hp} {s s' : Shared}
/-- from a body: what a callee wants -/
theorem Inv.env0 (I : Inv X pins σ H s) : Env0 X.prog X.w X.K X.mg X.base X.A X.stack s H :=
  ⟨I.ok.frames, I.ok.mod, I.bs, Nat.le_trans I.ok.bsz I.sz, I.stack, I.stkFree, I.hok, I.bare⟩
/-- behind a call -/
theorem Inv.after {Q : VK} {u : Value} (I : Inv X pins σ H s) (h : CE X.stack X.prog X.w H s Q u s') : EP X pins σ Q u s' := by
  obtain ⟨v, H', os, bare, un, hok, r, q⟩ := h
  obtain ⟨hh, g, d, t, os'⟩ := s'
  obtain rfl : os' = s.os := os
  exact ⟨v, H', I.call (h' := hh) (g' := g) (d' := d) (t' := t) (ch := []) un hok bare (fun b z => absurd z (by simp)), r, q⟩
end

/-! ### calls -/
/-- f(..): the written arguments, then the defaults dvs; E: what is wanted of an exception -/
def tCall (sp : Sp) (dvs : List V) (E : XK) (t : TA) : TE := fun σ H Q => t σ H fun vs H1 => sp (vs ++ dvs) H1 Q E
/-- o.m(..) of an instance of the class at C -/
def tMeth (C : Addr) (m : Str) (sp : Sp) (dvs : List V) (E : XK) (ta : TE) (t : TA) : TE := fun σ H Q => ta σ H fun x H1 => ∃ a dx fs, x = .ref a ∧ H1 a = some (.ins C dx fs) ∧ fs.lookup m = none ∧
  t σ H1 fun vs H2 => sp (x :: (vs ++ dvs)) H2 Q E
/-- C(..): a new instance and its dict, then __init__ -/
def tMake (C : Addr) (sp : Sp) (dvs : List V) (E : XK) (t : TA) : TE := fun σ H Q => t σ H fun vs H1 => ∀ x dx, H1 x = none → H1 dx = none → dx ≠ x →
  sp (.ref x :: (vs ++ dvs)) (upd (upd H1 dx (.own x)) x (.ins C dx [])) (fun v H2 => v = .non ∧ Q (.ref x) H2) E

/-- how the parameters are bound: us the positional arguments, kw the keywords' values by name, ds the defaults that fill up -/
def Binds (K : PySem.W.Frag) (fd : FuncData) (ps : List Str) (ds : List Value) : Prop :=
  ∀ (s : Shared) (us : List Value), K.In s.heap → (us ++ ds).length = ps.length → BindsTo s fd ⟨us, []⟩ (ps.zip (us ++ ds))
/-- every parameter is given -/
theorem Binds.all {K : PySem.W.Frag} {fd : FuncData} {ps : List Str} (h : ∀ us : List Value, us.length = ps.length → bindArgs fd ⟨us, []⟩ = pure (ps.zip us)) : Binds K fd ps [] := fun s us _ hl => by
  rw [List.append_nil] at hl ⊢
  exact .of_eq (h us hl)

/-- an exception of a callee reaches what this body wants of exceptions -/
def Passes (CX : CXT) (X : Cx) (E : XK) : Prop := ∀ (pins : List (Addr × Obj)) (σ : St) (H : Hp) (s : Shared) (e : Value) (s' : Shared), Inv X pins σ H s → CX X.stack H s E e s' → X.xe e s'

section
variable {X : Cx} {CX : CXT} {k : Nat} {f C : Addr} {fd : FuncData} {ps : List Str} {sp : Sp} {dvs : List V} {ds : List Value} {E : XK} {x m : Str} {p pos apos : Pos} {e o : Expr} {es : List Expr} {ta : TE} {t : TA}

/-- the callee runs -/
theorem run_fn {pins : List (Addr × Obj)} {σ : St} {H : Hp} {s : Shared} {Q : VK} {us : List Value} {vs : List V} (F : FnOk X.prog X.w X.K X.mg X.base CX k f fd ps sp) (hr : Room k X.A) (hb : Binds X.K fd ps ds) (hd : Vals dvs ds) (hx : Passes CX X E)
    (I : Inv X pins σ H s) (r : Vals vs us) (h : sp (vs ++ dvs) H Q E) : wpAny (model X.prog X.w) X.A (call (.ref f) us) (EP X pins σ Q) X.xe s := by
  have r2 : Vals (vs ++ dvs) (us ++ ds) := r.append hd
  have hl : (us ++ ds).length = ps.length := by rw [← r2.length]; exact F.len _ _ _ _ h
  refine wpAny_call (codeAny_mono (F.run X.A X.stack s H ⟨us, []⟩ (us ++ ds) (vs ++ dvs) Q E hr I.env0 (hb s us I.kIn hl) r2 h) fun r s' hq => ?_)
  cases r with
  | error e => exact hx pins σ H s e s' I hq
  | ok fl =>
    cases fl with
    | ret u => exact I.after hq
    | next => exact False.elim hq
    | brk => exact False.elim hq
    | cont => exact False.elim hq

theorem pe_call (F : FnOk X.prog X.w X.K X.mg X.base CX k f fd ps sp) (hr : Room k X.A) (hg : Gl X x) (hm : X.mg x = some (.ref f)) (hk : PySem.W.keepIn X.K (.ref f) = true) (hb : Binds X.K fd ps ds) (hd : Vals dvs ds) (hx : Passes CX X E)
    (ha : PA X (e :: es) t) (hdb : (x == ("__debug__" : Str)) = false := by decide) (he : starEach (e :: es) X.env = (false, eval e X.env) :: starEach es X.env := by rfl) (hpl : (backTo pos (starEach es X.env)).any (·.1) = false := by rfl) :
    PE X (.Call (.Name x p) (e :: es) [] pos) (tCall sp dvs E t) := by
  intro pins s σ H Q I h
  refine wpAny_Call_Name_kw (ld_glob I hg hm ?_ hdb)
  refine PySem.W.callWith_K (h₀ := X.base) I.ok.mod.kin hk (thn (ha pos pins s σ H _ I h) fun us s1 ⟨vs, H1, I1, r, q⟩ => ⟨I1.kIn, ?_⟩) he hpl
  exact run_fn F hr hb hd hx I1 r q
/-- what a class must have to be made -/
structure Mk (K : PySem.W.Frag) (C f : Addr) : Prop where
  makes : PySem.W.makesIn K C = true
  init : PySem.W.findIn K (.ref C) "__init__" = some (some (.ref f))
  fn : PySem.W.isFn K (.ref f) = true
  kp : PySem.W.keepIn K (.ref C) = true

end

/-! ### keywords -/
/-- the values of the keywords, from the left -/
def PK (X : Cx) (kws : List Keyword) (t : TA) : Prop :=
  ∀ (pos : Pos) (pins : List (Addr × Obj)) (s : Shared) (σ : St) (H : Hp) (Q : List V → Hp → Prop), Inv X pins σ H s → t σ H Q → wpAny (model X.prog X.w) X.A (evalAll ((backToKw pos (keywordEach kws X.env)).map (·.2))) (AP X pins σ Q) X.xe s
section
variable {X : Cx} {CX : CXT} {k : Nat} {f C : Addr} {fd : FuncData} {ps ks : List Str} {sp : Sp} {E : XK} {x m : Str} {p pos apos kpos : Pos} {e o : Expr} {es : List Expr} {kws : List Keyword} {te ta : TE} {t tk : TA} {nm : Option Str}
/-- how a call with keywords binds: g puts the positional values us and the keywords' values ws (names ks) in the parameters' order, defaults among them -/
structure KBinds (K : PySem.W.Frag) (fd : FuncData) (ps ks : List Str) (g : List Value → List Value → List Value) (gV : List V → List V → List V) : Prop where
  to : ∀ (s : Shared) (us ws : List Value), K.In s.heap → (g us ws).length = ps.length → BindsTo s fd ⟨us, ks.zip ws⟩ (ps.zip (g us ws))
  rel : ∀ {vs : List V} {us : List Value} {zs : List V} {ws : List Value}, Vals vs us → Vals zs ws → Vals (gV vs zs) (g us ws)
def tCallK (sp : Sp) (gV : List V → List V → List V) (E : XK) (t tk : TA) : TE := fun σ H Q => t σ H fun vs H1 => tk σ H1 fun zs H2 => sp (gV vs zs) H2 Q E
variable {g : List Value → List Value → List Value} {gV : List V → List V → List V}
end

/-! ### a def's body keeps its promise -/
/-- names: the parameters first -/
structure FnScope (N P : List Str) (sc : Scope) : Prop where
  kind : sc.kind = .function
  co : sc.isCoroutine = false
  gen : sc.isGenerator = false
  nd : N.Nodup
  pre : N.take P.length = P
  par : ∀ x ∈ P, sc.names.lookup x = some .local ∨ sc.names.lookup x = some .cell
  nofree : ∀ y ∈ sc.names, y.2 ≠ .free

theorem bindL_out {kindOf : Str → Option NameKind} {x : Str} : ∀ {binds : List (Str × Value)} {m : Str → Option Value}, (∀ v, (x, v) ∉ binds) → bindL kindOf binds m x = m x
  | [], _, _ => rfl
  | (n, v) :: r, m, h => by
    unfold bindL
    rw [bindL_out fun w hw => h w (List.mem_cons_of_mem _ hw)]
    split
    · have : x ≠ n := by rintro rfl; exact h v List.mem_cons_self
      simp [this]
    · rfl
theorem bindC_out {kindOf : Str → Option NameKind} {x : Str} : ∀ {binds : List (Str × Value)} {m : Str → Option Value}, (∀ v, (x, v) ∉ binds) → bindC kindOf binds m x = m x
  | [], _, _ => rfl
  | (n, v) :: r, m, h => by
    unfold bindC
    rw [bindC_out fun w hw => h w (List.mem_cons_of_mem _ hw)]
    split
    · rfl
    · have : x ≠ n := by rintro rfl; exact h v List.mem_cons_self
      simp [this]
theorem bindL_get {kindOf : Str → Option NameKind} {x : Str} {v : Value} : ∀ {P : List Str} {vs : List Value} {i : Nat} {m : Str → Option Value}, P.Nodup → P[i]? = some x → vs[i]? = some v → kindOf x = some .local →
    bindL kindOf (P.zip vs) m x = some v
  | [], _, _, _, _, h, _, _ => by simp at h
  | _ :: _, [], _, _, _, _, h, _ => by simp at h
  | p :: P, w :: vs, 0, m, nd, h1, h2, hk => by
    simp at h1 h2; subst h1; subst h2
    show bindL kindOf ((p, w) :: P.zip vs) m p = _
    unfold bindL
    rw [bindL_out fun v hv => (List.nodup_cons.mp nd).1 (List.of_mem_zip hv).1, if_pos hk]
    simp
  | p :: P, w :: vs, i + 1, m, nd, h1, h2, hk => by
    show bindL kindOf ((p, w) :: P.zip vs) m x = _
    unfold bindL
    exact bindL_get (i := i) (List.nodup_cons.mp nd).2 (by simpa using h1) (by simpa using h2) hk
theorem bindC_get {kindOf : Str → Option NameKind} {x : Str} {v : Value} : ∀ {P : List Str} {vs : List Value} {i : Nat} {m : Str → Option Value}, P.Nodup → P[i]? = some x → vs[i]? = some v → kindOf x ≠ some .local →
    bindC kindOf (P.zip vs) m x = some v
  | [], _, _, _, _, h, _, _ => by simp at h
  | _ :: _, [], _, _, _, _, h, _ => by simp at h
  | p :: P, w :: vs, 0, m, nd, h1, h2, hk => by
    simp at h1 h2; subst h1; subst h2
    show bindC kindOf ((p, w) :: P.zip vs) m p = _
    unfold bindC
    rw [bindC_out fun v hv => (List.nodup_cons.mp nd).1 (List.of_mem_zip hv).1, if_neg hk]
    simp
  | p :: P, w :: vs, i + 1, m, nd, h1, h2, hk => by
    show bindC kindOf ((p, w) :: P.zip vs) m x = _
    unfold bindC
    exact bindC_get (i := i) (List.nodup_cons.mp nd).2 (by simpa using h1) (by simpa using h2) hk

/-- the names' values at the entry -/
def start (N : List Str) (vs : List V) : St := vs.map some ++ List.replicate (N.length - vs.length) none

/-- the context of a def's body, at its entry; an exception leaves the frame, then lies as CX says -/
def cxOf (CX : CXT) (P : Program) (w : World) (K : PySem.W.Frag) (mg : Str → Option Value) (base : Heap) (N : List Str) (qual : Str) (scope : Scope) (f : Addr) (cd : Value) (A : Around) (outer : List Env) (s : Shared) (H : Hp) (E : XK) : Cx where
  prog := P
  w := w
  K := K
  mg := mg
  base := base
  A := A.deeper (envOfC qual scope s.heap.objs.size f cd)
  N := N
  s₀ := s
  H₀ := H
  env := envOfC qual scope s.heap.objs.size f cd
  outer := outer
  stack := envOfC qual scope s.heap.objs.size f cd :: outer
  ex := []
  calm := true
  fn := fun _ => true
  pn := []
  xe := fun e s' => wpAny (model P w) (A.deeper (envOfC qual scope s.heap.objs.size f cd)) (leaving (envOfC qual scope s.heap.objs.size f cd) e) (fun _ s'' => CX outer H s E e s'') (fun e' s'' => CX outer H s E e' s'') s'

theorem cell_has {sc : Scope} {n : Nat} {x : Str} (h : sc.names.lookup x = some .cell) : ∃ c, (cellsFrom n sc.names []).lookup x = some c := by
  have q := PySem.W.cellsFrom_some sc.names n [] (.inl h)
  exact Option.isSome_iff_exists.mp q

theorem inv_start {CX : CXT} {P : Program} {w : World} {K : PySem.W.Frag} {mg : Str → Option Value} {base : Heap} {N ps : List Str} {qual : Str} {scope : Scope} {f : Addr} {cd : Value} {A : Around} {outer : List Env} {s s1 : Shared} {H : Hp} {E : XK} {us : List Value} {vs : List V}
    (S : FnScope N ps scope) (hd : A.handled = none) (e0 : Env0 P w K mg base A outer s H) (hl : vs.length = ps.length) (r : Vals vs us)
    (x : InCallC s s.heap.objs.size (bindL (envOfC qual scope s.heap.objs.size f cd).kindOf (ps.zip us) fun _ => none) (cellsFrom (s.heap.objs.size + 1) scope.names []) (bindC (envOfC qual scope s.heap.objs.size f cd).kindOf (ps.zip us) fun _ => none) s1) :
    Inv (cxOf CX P w K mg base N qual scope f cd A outer s H E) [] (start N vs) H s1 := by
  have hpl : ps.length ≤ N.length := by have := congrArg List.length S.pre; rw [List.length_take] at this; omega
  obtain ⟨h1, tk, rfl, hk⟩ := x.done
  have noA : ∀ b : Addr, b ∉ (cxOf CX P w K mg base N qual scope f cd A outer s H E).ex := fun b z => absurd (show b ∈ ([] : List Addr) from z) (by simp)
  refine ⟨⟨e0.mod, S.kind, rfl, rfl, Nat.le_refl _, fun y z c h1 h2 => ?_, fun y hy => ?_, fun y c _ h => ?_, fun _ => hd, Around.frames_deeper e0.frames, .inr ⟨rfl, rfl⟩, fun b z => absurd z (noA b), e0.bs, e0.bsz, fun b _ _ => noA b, fun b z => absurd z (noA b), e0.funs, e0.frf⟩,
    rfl, e0.bare, Un.kept hk, ⟨_, x.toInCall.ns, fun i y v h1 h2 h3 => ?_⟩, fun y c h => ⟨_, x.cell y c h⟩, e0.hok.fresh (Nat.le_refl _), fun y c h => ?_, fun p hp => absurd (show p ∈ ([] : List (Addr × Obj)) from hp) (by simp), e0.hok.kept hk, ?_⟩
  · exact name_of_addr x.apart (PySem.mem_of_lookup h1) (PySem.mem_of_lookup h2)
  · have hy : scope.names.lookup y = some .cell ∨ scope.names.lookup y = some .free := hy
    rcases hy with hy | hy
    · exact cell_has hy
    · exact absurd rfl (S.nofree _ (PySem.mem_of_lookup hy))
  · exact Nat.le_of_lt (x.above y c (PySem.mem_of_lookup h))
  · have hi : i < vs.length := by
      unfold start at h2
      by_cases hi : i < vs.length
      · exact hi
      · rw [List.getElem?_append_right (by simpa using hi)] at h2
        rw [List.getElem?_replicate] at h2
        split at h2 <;> cases h2
    have ha : vs[i]? = some v := by
      unfold start at h2
      rw [List.getElem?_append_left (by simpa using hi), List.getElem?_map] at h2
      cases e : vs[i]? with
      | none => rw [e] at h2; cases h2
      | some a => rw [e] at h2; cases h2; rfl
    obtain ⟨u, hu, rv⟩ := r.get ha
    have hp : ps[i]? = some y := by
      rw [← S.pre, List.getElem?_take_of_lt (by omega)]; exact h1
    have ndP : ps.Nodup := by rw [← S.pre]; exact S.nd.sublist (List.take_sublist _ _)
    refine ⟨u, rv, ?_⟩
    rcases S.par y (List.mem_of_getElem? hp) with k | k
    · exact .inl ⟨k, bindL_get ndP hp hu k⟩
    · obtain ⟨c, e⟩ := cell_has (n := s.heap.objs.size + 1) k
      refine .inr ⟨.inl k, c, e, ?_⟩
      have q := x.cell y c e
      rw [bindC_get ndP hp hu (by show scope.names.lookup y ≠ _; rw [k]; decide)] at q
      exact q
  · exact e0.hok.fresh (Nat.le_of_lt (x.above y c (PySem.mem_of_lookup h)))
  · unfold start
    show _ = N.length
    rw [List.length_append, List.length_map, List.length_replicate]
    omega

/-- THE RULE: a def (or a method) of the text, by its body. The body's reading t is chosen for each entry; it is run at the parameters' values -/
theorem fn_of {CX : CXT} {P : Program} {w : World} {K : PySem.W.Frag} {mg : Str → Option Value} {base : Heap} {k : Nat} {f : Addr} {name qual : Str} {params : Arguments} {body : List Stmt} {scope : Scope} {dV kV doc pm cdv ct oc : Value} {an od : Option Addr}
    {osl : Array (Option Value)} {N ps : List Str} {sp : Sp} (lk : K.lookup f = some ⟨oc, od, .func (PySem.W.fnOf name qual params body scope dV kV doc pm an cdv ct), osl⟩) (hcd : PySem.W.codeIn K cdv qual = true) (S : FnScope N ps scope)
    (len : ∀ vs H Q E, sp vs H Q E → vs.length = ps.length)
    (hbody : ∀ (A : Around) (outer : List Env) (s : Shared) (H : Hp) (vs : List V) (Q : VK) (E : XK), Room k (A.deeper (envOfC qual scope s.heap.objs.size f cdv)) → sp vs H Q E →
      ∃ t, PSs (cxOf CX P w K mg base N qual scope f cdv A outer s H E) body t ∧ t { nx := fun _ H' => Q .non H', rt := Q } (start N vs) H) :
    FnOk P w K mg base CX (k + 1) f (PySem.W.fnOf name qual params body scope dV kV doc pm an cdv ct) ps sp := by
  refine ⟨len, fun A outer s H args us vs Q E hr e0 hb r hsp => ?_⟩
  have hl := len _ _ _ _ hsp
  have KX : K.In s.heap := e0.mod.kin.keeps fun b o e => (e0.bs b o e).1
  have lim : s.heap.NoLimit := e0.mod.nolimit.keeps fun b o e => (e0.bs b o e).1
  have hkind : ∀ y ∈ ps.zip us, scope.names.lookup y.1 = some .local ∨ (scope.names.lookup y.1 = some .cell ∧ ((cellsFrom (s.heap.objs.size + 1) scope.names []).lookup y.1).isSome = true) := fun ⟨n, v⟩ hy => by
    rcases S.par n (List.of_mem_zip hy).1 with q | q
    · exact .inl q
    · exact .inr ⟨q, PySem.W.cellsFrom_some _ _ _ (.inl q)⟩
  refine codeAny_call_function hr.depth (KX _ _ lk) rfl S.co S.gen rfl (PySem.W.codeRec_of KX hcd) (hb _ _ _ _ ?_)
  refine wpAny_newFunctionEnv_cells S.kind hkind fun env he s1 x => ?_
  subst he
  refine ⟨lim.keeps x.toInCall.keep, codeAny_func ?_⟩
  obtain ⟨t, ht, hq⟩ := hbody A outer s H vs Q E (hr.deeper _) hsp
  have I : Inv (cxOf CX P w K mg base N qual scope f cdv A outer s H E) [] (start N vs) H s1 := inv_start S hr.hd e0 hl r x
  refine wpAny_mono (ht [] s1 (start N vs) H _ I hq) (fun fl s' hs => ?_) fun e s' hs => hs
  have fin : ∀ {σ' : St} {H' : Hp} {v : V} {u : Value}, Inv (cxOf CX P w K mg base N qual scope f cdv A outer s H E) [] σ' H' s' → RelV v u → Q v H' → CE outer P w H s Q u s' :=
    fun {σ' H' v u} J rv q => ⟨v, H', J.os, J.bare, J.base, J.hok, rv, q⟩
  cases fl with
  | ret u =>
    obtain ⟨v, σ', H', J, rv, q⟩ := hs
    exact fin J rv q
  | next =>
    obtain ⟨σ', H', J, q⟩ := hs
    exact fin (v := V.non) (u := Value.none) J rfl q
  | brk =>
    obtain ⟨_, _, _, q⟩ := hs
    exact False.elim q
  | cont =>
    obtain ⟨_, _, _, q⟩ := hs
    exact False.elim q
end L2

namespace L2
open PySem PySem.Spec PyProof.Rows
section
variable {X : Cx} {x : Str} {p pos : Pos} {e : Expr} {es : List Expr} {t : TA} {id T : String} {r : List V → Hp → VK → Prop}

def tCB (r : List V → Hp → VK → Prop) (t : TA) : TE := fun σ H Q => t σ H fun vs H1 => r vs H1 Q
/-- f(e, ..), f a built-in function -/
theorem pe_callB (hc : CallR X (.builtin id) r) (hg : Gl X x) (hm : X.mg x = none) (hv : bootBuiltins x = some (.builtin id)) (ha : PA X (e :: es) t) (hn : x ≠ "__name__" := by decide) (hdb : (x == ("__debug__" : Str)) = false := by decide)
    (he : starEach (e :: es) X.env = (false, eval e X.env) :: starEach es X.env := by rfl) (hpl : (backTo pos (starEach es X.env)).any (·.1) = false := by rfl) : PE X (.Call (.Name x p) (e :: es) [] pos) (tCB r t) := by
  intro pins s σ H Q I h
  refine wpAny_Call_Name_kw (ld_blt I hg hm hv ?_ hn hdb)
  exact PyProof.Rows.callWith_builtin1 (thn (ha pos pins s σ H _ I h) fun us s1 ⟨vs, H1, I1, r1, q1⟩ => hc pins s1 σ H1 vs us Q I1 r1 q1) he hpl
/-- T(e, ..), T a built-in type -/
theorem pe_callTy (hc : CallR X (.type T) r) (hg : Gl X x) (hm : X.mg x = none) (hv : bootBuiltins x = some (.type T)) (ha : PA X (e :: es) t) (hn : x ≠ "__name__" := by decide) (hdb : (x == ("__debug__" : Str)) = false := by decide)
    (he : starEach (e :: es) X.env = (false, eval e X.env) :: starEach es X.env := by rfl) (hpl : (backTo pos (starEach es X.env)).any (·.1) = false := by rfl) : PE X (.Call (.Name x p) (e :: es) [] pos) (tCB r t) := by
  intro pins s σ H Q I h
  refine wpAny_Call_Name_kw (ld_blt I hg hm hv ?_ hn hdb)
  exact PyProof.Rows.callWith_type1 (thn (ha pos pins s σ H _ I h) fun us s1 ⟨vs, H1, I1, r1, q1⟩ => hc pins s1 σ H1 vs us Q I1 r1 q1) he hpl
end
end L2

namespace HT
open PySem PyProof.Rows

/-- t < u of tuples of ints -/
def lexLt : List Int → List Int → Bool
  | [], [] => false
  | [], _ :: _ => true
  | _ :: _, [] => false
  | x :: xs, y :: ys => if x = y then lexLt xs ys else decide (x < y)
section
open PySem.SeqAt
open PySem.AutoSeq1 (wpAny_loadPart')
open PySem.MeetsSeq PySem.MeetsSeq2 PySem.MeetsSeq3

end

section
variable {prog : Program} {w : World} {A : Around} {E : Value → Shared → Prop} {s : Shared}

/-! ### t[a:b], not the whole -/
/-- a slice's bound as a place among n (d where it is left out) -/
def sIx (n d : Nat) : Option Int → Nat
  | none => d
  | some v => if v < 0 then (v + (n : Int)).toNat else min v.toNat n
end
end HT

namespace L2
open PySem PySem.Spec PyProof.Rows

/-! ### the parts of a slice -/
abbrev TO := St → Hp → (Option Int → Hp → Prop) → Prop
/-- a slice's part (left out, or an int) -/
def PO (X : Cx) (e : Option Expr) (t : TO) : Prop :=
  ∀ (pins : List (Addr × Obj)) (s : Shared) (σ : St) (H : Hp) (Q : Option Int → Hp → Prop), Inv X pins σ H s → t σ H Q →
    wpAny (model X.prog X.w) X.A (evalPart e X.env) (fun u s' => ∃ o H', Inv X pins σ H' s' ∧ IsPart u o ∧ Q o H') X.xe s
def tNoPart : TO := fun _ H Q => Q none H
def tPart (t : TE) : TO := fun σ H Q => t σ H fun x H1 => ∃ i, x = .int i ∧ Q (some i) H1

section
variable {X : Cx} {e : Expr} {te : TE} {lo hi : Option Expr} {tl th : TO} {pos p2 : Pos}

theorem po_none : PO X none tNoPart := by
  intro pins s σ H Q I h
  rw [evalPart_none]
  exact wpAny_pure ⟨none, H, I, .none, h⟩
theorem po_some (h : PE X e te) : PO X (some e) (tPart te) := by
  intro pins s σ H Q I hw
  rw [evalPart_some]
  refine thn (h pins s σ H _ I hw) fun u s1 ⟨x, H1, I1, r1, q1⟩ => ?_
  obtain ⟨i, rfl, q⟩ := q1
  obtain ⟨t, rfl⟩ := r1
  exact ⟨some i, H1, I1, .int i t, q⟩

/-- what a slice of a value is, by values: the slice object stands at sl -/
def SlR (X : Cx) (r : V → Option Int → Option Int → Hp → VK → Prop) : Prop :=
  ∀ (pins : List (Addr × Obj)) (s : Shared) (σ : St) (H : Hp) (x : V) (v vl vu : Value) (lo hi : Option Int) (sl : Addr) (Q : VK), Inv X pins σ H s → RelV x v → s.heap.IsSliceOf sl vl vu .none → IsPart vl lo → IsPart vu hi → r x lo hi H Q →
    ∃ T id, typeLookup (.type T) "__getitem__" = pure (some (.builtin id)) ∧ s.TypeIs v T ∧ wpAny (model X.prog X.w) X.A (getItem v (.ref sl)) (EP X pins σ Q) X.xe s
def tSl (r : V → Option Int → Option Int → Hp → VK → Prop) (te : TE) (tl th : TO) : TE := fun σ H Q => te σ H fun x H1 => tl σ H1 fun l H2 => th σ H2 fun u H3 => r x l u H3 Q
/-- a[lo:hi], any a -/
theorem pe_slice {r : V → Option Int → Option Int → Hp → VK → Prop} (hr : SlR X r) (he : PE X e te) (hl : PO X lo tl) (hu : PO X hi th) : PE X (.Subscript e (.Slice lo hi none p2) pos) (tSl r te tl th) := by
  intro pins s σ H Q I h
  refine Subscript_ (thn (he pins s σ H _ I h) fun v s1 ⟨x, H1, I1, r1, q1⟩ => ?_)
  refine wpAny_Slice (thn (hl pins s1 σ H1 _ I1 q1) fun vl s2 ⟨l, H2, I2, pl, q2⟩ => thn (hu pins s2 σ H2 _ I2 q2) fun vu s3 ⟨u, H3, I3, pu, q3⟩ => ?_)
  rw [evalPart_none]
  refine wpAny_pure ?_
  have I4 : Inv X pins σ H3 { s3 with heap := s3.heap.push { cls := .type "slice", data := .fields #[vl, vu, .none] } } := I3.kept (t' := s3.toks) fun b ob q => Heap.get?_push_of_some _ q
  obtain ⟨T, id, hT, ht, hg⟩ := hr pins { s3 with heap := s3.heap.push { cls := .type "slice", data := .fields #[vl, vu, .none] } } σ H3 x v vl vu l u s3.heap.objs.size Q I4 r1 (Heap.IsSliceOf.new ..) pl pu q3
  show wpAny (model X.prog X.w) X.A (subscriptTail e (.Slice lo hi none p2) v (.ref s3.heap.objs.size)) (EP X pins σ Q) X.xe { s3 with heap := s3.heap.push { cls := .type "slice", data := .fields #[vl, vu, .none] } }
  exact tail_any (ops := [.ref s3.heap.objs.size, v]) ht hT hg (by with_unfolding_all rfl)

/-- the items of xs[lo:hi] -/
def cutV (xs : List V) (lo hi : Option Int) : List V := (xs.drop (HT.sIx xs.length 0 lo)).take (HT.sIx xs.length xs.length hi - HT.sIx xs.length 0 lo)
theorem cutV_length (xs : List V) (lo hi : Option Int) : (cutV xs lo hi).length ≤ xs.length := by
  unfold cutV
  rw [List.length_take, List.length_drop]
  omega
/-- t[lo:hi], not the whole of it (the whole would be t itself) -/
def rSlT (K : PySem.W.Frag) : V → Option Int → Option Int → Hp → VK → Prop := fun x lo hi H Q => ∃ a xs, x = .ref a ∧ SqT K H a xs ∧
  ¬ (HT.sIx xs.length 0 lo = 0 ∧ HT.sIx xs.length xs.length hi = xs.length) ∧ ∀ p, H p = none → Q (.ref p) (upd H p (.tup (cutV xs lo hi)))
/-! ### t < u, t + u -/
def rLtT (K : PySem.W.Frag) : R2 := fun x y H Q => ∃ a b ns ms, x = .ref a ∧ y = .ref b ∧ SqT K H a (ns.map V.int) ∧ SqT K H b (ms.map V.int) ∧ Q (.bl (HT.lexLt ns ms)) H
/-- t + u, t not empty: u empty gives t itself -/
def rCatT (K : PySem.W.Frag) : R2 := fun x y H Q => ∃ a b xs ys, x = .ref a ∧ y = .ref b ∧ SqT K H a xs ∧ SqT K H b ys ∧ xs ≠ [] ∧ xs.length + ys.length ≤ sizeLine ∧
  (ys = [] → Q (.ref a) H) ∧ (ys ≠ [] → ∀ p, H p = none → Q (.ref p) (upd H p (.tup (xs ++ ys))))
end
end L2

namespace L2
open PySem PySem.Spec PyProof.Rows

/-! ### places -/
/-- the place that an index of any sign means -/
def ixN (n : Nat) (i : Int) : Option Nat := if 0 ≤ i then (if i < n then some i.toNat else none) else if -(n : Int) ≤ i then some (i + n).toNat else none
def atI {α : Type} (xs : List α) (i : Int) : Option α := (ixN xs.length i).bind fun j => xs[j]?
theorem ixN_seq {n : Nat} {i : Int} {j : Nat} (h : ixN n i = some j) : seqIndex? i n = some j ∧ j < n ∧ -(n : Int) ≤ i ∧ i < n := by
  unfold ixN at h
  by_cases h0 : 0 ≤ i
  · rw [if_pos h0] at h
    by_cases h1 : i < n
    · rw [if_pos h1] at h
      have e : i.toNat = j := Option.some.inj h
      exact ⟨by rw [seqIndex_of h0 h1, e], by omega, by omega, h1⟩
    · rw [if_neg h1] at h; cases h
  · rw [if_neg h0] at h
    by_cases h1 : -(n : Int) ≤ i
    · rw [if_pos h1] at h
      have e : (i + n).toNat = j := Option.some.inj h
      exact ⟨by rw [seqIndex_neg (by omega) h1, e], by omega, h1, by omega⟩
    · rw [if_neg h1] at h; cases h
theorem atI_get {α : Type} {xs : List α} {i : Int} {v : α} (h : atI xs i = some v) : ∃ j, seqIndex? i xs.length = some j ∧ xs[j]? = some v ∧ j < xs.length ∧ -(xs.length : Int) ≤ i ∧ i < xs.length := by
  unfold atI at h
  cases e : ixN xs.length i with
  | none => rw [e] at h; cases h
  | some j =>
    rw [e] at h
    obtain ⟨h1, h2, h3, h4⟩ := ixN_seq e
    exact ⟨j, h1, h, h2, h3, h4⟩
theorem atI_nat {α : Type} {xs : List α} {j : Nat} {v : α} (h : xs[j]? = some v) : atI xs (j : Int) = some v := by
  have hj : j < xs.length := (List.getElem?_eq_some_iff.mp h).1
  have e : ixN xs.length (j : Int) = some j := by
    unfold ixN
    rw [if_pos (by omega), if_pos (by omega)]; simp
  unfold atI; rw [e]; exact h
/-! ### what may be subscripted -/
/-- what stands as an index of a plain subscript -/
def PlainIx (b : Expr) : Prop := ∀ o i, subscripted b false o i = operate [o, i] (getItem o i)
/-- a subscript by values -/
def IxR (X : Cx) (r : R2) : Prop :=
  ∀ (value slice : Expr) (pins : List (Addr × Obj)) (s : Shared) (σ : St) (H : Hp) (x y : V) (v u : Value) (Q : VK), Inv X pins σ H s → RelV x v → RelV y u → r x y H Q →
    subscripted slice false v u = operate [v, u] (getItem v u) → wpAny (model X.prog X.w) X.A (subscriptTail value slice v u) (EP X pins σ Q) X.xe s
/-- a call of a builtin's method by values: the receiver, the arguments -/
def MtR (X : Cx) (id : String) (r : V → List V → Hp → VK → Prop) : Prop :=
  ∀ (pins : List (Addr × Obj)) (s : Shared) (σ : St) (H : Hp) (x : V) (xs : List V) (v : Value) (us : List Value) (Q : VK), Inv X pins σ H s → RelV x v → Vals xs us → r x xs H Q →
    wpAny (model X.prog X.w) X.A (call (.builtin id) (v :: us)) (EP X pins σ Q) X.xe s
section
variable {X : Cx} {a b : Expr} {ta tb : TE} {pos : Pos}
/-- a[b] -/
theorem pe_ix {r : R2} (hr : IxR X r) (ha : PE X a ta) (hb : PE X b tb) (hs : PlainIx b) : PE X (.Subscript a b pos) (tOp r ta tb) := by
  intro pins s σ H Q I h
  exact Subscript_ (binT ha hb I h fun v u s2 x y H2 I2 rx ry q => hr a b pins s2 σ H2 x y v u Q I2 rx ry q (hs _ _))

def rIxL (K : PySem.W.Frag) : R2 := fun x y H Q => ∃ p xs i v, x = .ref p ∧ y = .int i ∧ SqL K H p xs ∧ atI xs i = some v ∧ Q v H
def rIxT (K : PySem.W.Frag) : R2 := fun x y H Q => ∃ p xs i v, x = .ref p ∧ y = .int i ∧ SqT K H p xs ∧ atI xs i = some v ∧ Q v H
def rIxS : R2 := fun x y H Q => ∃ z i c, x = .str z ∧ y = .int i ∧ z.length ≤ sizeLine ∧ atI z.cps.toList i = some c ∧ Q (.str ⟨#[c]⟩) H
theorem ix_list : IxR X (rIxL X.K) := by
  intro value slice pins s σ H x y v u Q I rx ry h hs
  obtain ⟨p, xs, i, z, rfl, rfl, hq, he, q⟩ := h
  cases rx
  obtain ⟨t, rfl⟩ := ry
  obtain ⟨its, r, pl, hz⟩ := I.list hq
  obtain ⟨j, h1, h2, h3, h4, h5⟩ := atI_get he
  obtain ⟨w, ew, rw'⟩ := r.get h2
  have hl := r.length
  have hn := line63
  have fin : EP X pins σ Q w s := ⟨z, H, I, rw', q⟩
  by_cases h0 : 0 ≤ i
  · have hj : i.toNat = j := by
      rw [seqIndex_of h0 h5] at h1
      exact Option.some.inj h1
    exact item_listR pl.isList h0 (by omega) (by rw [hj]; simpa using ew) fin hs
  · have hj : (i + (its.toArray.size : Int)).toNat = j := by
      rw [seqIndex_neg (by omega) h4] at h1
      rw [List.size_toArray, ← hl]
      exact Option.some.inj h1
    exact subscriptTail_builtinR (x := w) pl.isList.typeIs slot_list_getitem.lookup
      (wpAny_getItem_list_neg (Q := fun r s' => r = w ∧ EP X pins σ Q r s') pl.isList (by omega) (by rw [List.size_toArray] <;> omega) (by omega) (by rw [hj]; simpa using ew) ⟨rfl, fin⟩) hs
theorem ix_tup : IxR X (rIxT X.K) := by
  intro value slice pins s σ H x y v u Q I rx ry h hs
  obtain ⟨p, xs, i, z, rfl, rfl, hq, he, q⟩ := h
  cases rx
  obtain ⟨t, rfl⟩ := ry
  obtain ⟨its, r, pl, hz⟩ := I.tuple hq
  obtain ⟨j, h1, h2, h3, h4, h5⟩ := atI_get he
  obtain ⟨w, ew, rw'⟩ := r.get h2
  have hl := r.length
  have hn := line63
  have fin : EP X pins σ Q w s := ⟨z, H, I, rw', q⟩
  exact subscriptTail_builtinR (x := w) pl.typeIs slot_tuple_getitem.lookup
    (getItem_tuple (j := j) (Q := fun r s' => r = w ∧ EP X pins σ Q r s') pl (by omega) (by omega) (by rw [List.size_toArray, ← hl]; exact h1) (by simpa using ew) ⟨rfl, fin⟩) hs
theorem ix_str : IxR X rIxS := by
  intro value slice pins s σ H x y v u Q I rx ry h hs
  obtain ⟨z, i, c, rfl, rfl, hz, he, q⟩ := h
  obtain ⟨t, rfl⟩ := rx
  obtain ⟨t', rfl⟩ := ry
  obtain ⟨j, h1, h2, h3, h4, h5⟩ := atI_get he
  have hl : z.cps.toList.length = z.length := by simp [Str.length]
  rw [hl] at h1 h4 h5
  have hn := line63
  exact tail_any (typeIs_str s z t) slot_str_getitem.lookup (getItem_str (c := c) (by
    have e1 : decide (i < -(2 ^ 63 : Int)) = false := decide_eq_false (by omega)
    have e2 : decide (i ≥ 2 ^ 63) = false := decide_eq_false (by omega)
    rw [e1, e2, Bool.or_false]) (by rw [h1]; simpa using h2) ⟨.str ⟨#[c]⟩, H, I.tok _, ⟨_, rfl⟩, q⟩) hs
/-- list, tuple or str -/
def rIx (K : PySem.W.Frag) : R2 := fun x y H Q => rIxL K x y H Q ∨ rIxT K x y H Q ∨ rIxS x y H Q
/-! ### xs[i] = v, any sign -/
/-- the list's object behind a store -/
theorem mapSeq_set (its : List Value) (n j : Nat) (u : Value) : Obj.mapSeq (·.setIfInBounds j u) { cls := .type "list", data := .seq its.toArray n } = { cls := .type "list", data := .seq (its.set j u).toArray n } := by
  simp [Obj.mapSeq]
theorem Inv.lst {pins : List (Addr × Obj)} {σ : St} {H : Hp} {s : Shared} {p : Addr} {xs : List V} (I : Inv X pins σ H s) (h : H p = some (.lst xs)) :
    ∃ (its : List Value) (n : Nat), Vals xs its ∧ s.heap.get? p = some { cls := .type "list", data := .seq its.toArray n } ∧ xs.length ≤ sizeLine := by
  obtain ⟨z, its, n, r, e⟩ := I.hok p _ h
  exact ⟨its, n, r, e, z⟩
/-- the list at p is written by an update of its object -/
theorem Inv.lstUpd {pins : List (Addr × Obj)} {σ : St} {H : Hp} {s : Shared} {p : Addr} {xs ys : List V} {its its' : List Value} {n n' : Nat} {f : Obj → Obj} (I : Inv X pins σ H s) (h : H p = some (.lst xs))
    (ho : s.heap.get? p = some { cls := .type "list", data := .seq its.toArray n }) (hf : f { cls := .type "list", data := .seq its.toArray n } = { cls := .type "list", data := .seq its'.toArray n' }) (r : Vals ys its') (hz : ys.length ≤ sizeLine) (t : Nat) :
    Inv X pins σ (upd H p (.lst ys)) { s with heap := s.heap.update p f, toks := t } := by
  have e : (s.heap.update p f).get? p = some { cls := .type "list", data := .seq its'.toArray n' } := by
    rw [Heap.get?_update_self f ho (by rw [hf] <;> rfl), hf]
  refine I.write (x := p) (e := p) (by rw [h]; trivial) (.inl rfl) (fun b u hb q => (Heap.get?_update_other _ _ (Ne.symm hb)).trans q) ⟨_, e⟩ ?_
  exact ⟨hz, its', n', r, e⟩
def rSetL : V → V → V → Hp → (Hp → Prop) → Prop := fun o i v H Q => ∃ p xs k j, o = .ref p ∧ i = .int k ∧ H p = some (.lst xs) ∧ ixN xs.length k = some j ∧ Q (upd H p (.lst (xs.set j v)))
theorem set_list : PSet X rSetL := by
  intro pins s σ H o i v ov iv u Q I ro ri rv h
  obtain ⟨p, xs, k, j, rfl, rfl, hp, hj, q⟩ := h
  cases ro
  obtain ⟨t, rfl⟩ := ri
  obtain ⟨its, n, r, ho, hz⟩ := I.lst hp
  obtain ⟨h1, h2, h3, h4⟩ := ixN_seq hj
  have hl := r.length
  have hn := line63
  have I' : Inv X pins σ (upd H p (.lst (xs.set j v))) { s with heap := s.heap.update p (Obj.mapSeq (·.setIfInBounds j u)) } :=
    I.lstUpd hp ho (mapSeq_set its n j u) (r.set rv j) (by rw [List.length_set]; exact hz) s.toks
  by_cases h0 : 0 ≤ k
  · have hk : k.toNat = j := by
      rw [seqIndex_of h0 h4] at h1
      exact Option.some.inj h1
    exact PySem.W.ki_setAt ho h0 (by omega) (by rw [List.size_toArray, ← hl]; exact h4) (by rw [hk]; exact ⟨_, I', q⟩)
  · have hk : (k + (its.toArray.size : Int)).toNat = j := by
      rw [seqIndex_neg (by omega) h3] at h1
      rw [List.size_toArray, ← hl]
      exact Option.some.inj h1
    exact PySem.W.ki_setBack ho (by omega) (by rw [List.size_toArray, ← hl]; exact h3) (by omega) (by rw [hk]; exact ⟨_, I', q⟩)

/-! ### slices -/
theorem slice_bounds (lo hi : Option Int) (n : Nat) : (sliceBounds lo hi none n).1 = ((HT.sIx n 0 lo : Nat) : Int) ∧ (sliceBounds lo hi none n).2.1 = ((HT.sIx n n hi : Nat) : Int) ∧ (sliceBounds lo hi none n).2.2 = 1 := by
  refine ⟨?_, ?_, rfl⟩
  · cases lo with
    | none => simp [sliceBounds, HT.sIx]
    | some i =>
      simp only [sliceBounds, HT.sIx, Option.getD_none, show (1 : Int) > 0 by decide, if_true]
      by_cases h : i < 0
      · simp only [h, if_true] <;> omega
      · simp only [h, if_false] <;> omega
  · cases hi with
    | none => simp [sliceBounds, HT.sIx]
    | some i =>
      simp only [sliceBounds, HT.sIx, Option.getD_none, show (1 : Int) > 0 by decide, if_true]
      by_cases h : i < 0
      · simp only [h, if_true] <;> omega
      · simp only [h, if_false] <;> omega
theorem slicePick_cut (its : List Value) (lo hi : Option Int) : slicePick its.toArray lo hi none = ((its.drop (HT.sIx its.length 0 lo)).take (HT.sIx its.length its.length hi - HT.sIx its.length 0 lo)).toArray := by
  obtain ⟨h1, h2, h3⟩ := slice_bounds lo hi its.toArray.size
  unfold slicePick
  rw [h1, h2, h3]
  simp only [sliceRange_one, pick_run, List.size_toArray] <;> rfl
/-- xs[lo:hi] of a list: a new list -/
def rSlL (K : PySem.W.Frag) : V → Option Int → Option Int → Hp → VK → Prop := fun x lo hi H Q => ∃ a xs, x = .ref a ∧ SqL K H a xs ∧ ∀ p, H p = none → Q (.ref p) (upd H p (.lst (cutV xs lo hi)))
theorem sl_list : SlR X (rSlL X.K) := by
  intro pins s σ H x v vl vu lo hi sl Q I rx hs pl pu h
  obtain ⟨a, xs, rfl, hx, q⟩ := h
  cases rx
  obtain ⟨its, r, ht, hz⟩ := I.list hx
  have hlen := r.length
  refine ⟨"list", _, slot_list_getitem.lookup, ht.isList.typeIs, ?_⟩
  refine wpAny_getItem_list_slice ht.isList hs pl pu .none (by simp) ?_ (by rw [List.size_toArray] <;> omega)
  rw [slicePick_cut, ← hlen]
  refine ⟨.ref s.heap.objs.size, _, I.laid (t' := s.toks) (o := .lst (cutV xs lo hi)) (fun b ob q => Heap.get?_push_of_some _ q) (Nat.le_refl _) ?_, rfl, q _ (I.hok.fresh (Nat.le_refl _))⟩
  exact ⟨Nat.le_trans (cutV_length xs lo hi) hz, _, 0, (r.drop (HT.sIx xs.length 0 lo)).take (HT.sIx xs.length xs.length hi - HT.sIx xs.length 0 lo), Heap.get?_push_size _ rfl⟩

/-! ### in, not in: flat items -/
def flatV : V → Bool
  | .non => true
  | .bl _ => true
  | .int _ => true
  | .str _ => true
  | _ => false
/-- == of flat values -/
def eqV : V → V → Bool
  | .non, .non => true
  | .bl a, .bl b => a == b
  | .bl a, .int b => (if a then 1 else 0) == b
  | .int a, .bl b => a == (if b then 1 else 0)
  | .int a, .int b => a == b
  | .str a, .str b => a == b
  | _, _ => false
theorem eqAt_V {A : Around} {s : Shared} {y x : V} {u v : Value} (ry : RelV y u) (rx : RelV x v) (fy : flatV y = true) (fx : flatV x = true) : SeqAt.EqAt A s u v (eqV y x) := by
  cases y with
  | non =>
    cases ry
    cases x with
    | non => cases rx; exact SeqAt.EqAt.same _
    | bl b => cases rx; exact SeqAt.EqAt.none_bool b
    | int b => obtain ⟨t, rfl⟩ := rx; exact SeqAt.EqAt.none_int b t
    | str b => obtain ⟨t, rfl⟩ := rx; exact SeqAt.EqAt.none_str b t
    | _ => exact absurd (show false = true from fx) Bool.false_ne_true
  | bl a =>
    cases ry
    cases x with
    | non => cases rx; exact SeqAt.EqAt.bool_none a
    | bl b => cases rx; exact SeqAt.EqAt.bool_bool a b
    | int b => obtain ⟨t, rfl⟩ := rx; exact SeqAt.EqAt.bool_int a b t
    | str b => obtain ⟨t, rfl⟩ := rx; exact SeqAt.EqAt.bool_str a b t
    | _ => exact absurd (show false = true from fx) Bool.false_ne_true
  | int a =>
    obtain ⟨t', rfl⟩ := ry
    cases x with
    | non => cases rx; exact SeqAt.EqAt.int_none a t'
    | bl b => cases rx; exact SeqAt.EqAt.int_bool a t' b
    | int b => obtain ⟨t, rfl⟩ := rx; exact SeqAt.EqAt.int_int a t' b t
    | str b => obtain ⟨t, rfl⟩ := rx; exact SeqAt.EqAt.int_str a t' b t
    | _ => exact absurd (show false = true from fx) Bool.false_ne_true
  | str a =>
    obtain ⟨t', rfl⟩ := ry
    cases x with
    | non => cases rx; exact SeqAt.EqAt.str_none a t'
    | bl b => cases rx; exact SeqAt.EqAt.str_bool a t' b
    | int b => obtain ⟨t, rfl⟩ := rx; exact SeqAt.EqAt.str_int a t' b t
    | str b => obtain ⟨t, rfl⟩ := rx; exact SeqAt.EqAt.str_str a t' b t
    | _ => exact absurd (show false = true from fx) Bool.false_ne_true
  | _ => exact absurd (show false = true from fy) Bool.false_ne_true
/-- the items' answers, read off the values (a value's own answer does not lean on its token) -/
def eqU (x : V) (u : Value) : Bool := match u with
  | .none => eqV .non x
  | .bool b => eqV (.bl b) x
  | .int i _ => eqV (.int i) x
  | .str z _ => eqV (.str z) x
  | _ => false
theorem eqU_of {x y : V} {u : Value} (r : RelV y u) (f : flatV y = true) : eqU x u = eqV y x := by
  cases y with
  | non => cases r; rfl
  | bl b => cases r; rfl
  | int i => obtain ⟨t, rfl⟩ := r; rfl
  | str z => obtain ⟨t, rfl⟩ := r; rfl
  | _ => exact absurd (show false = true from f) Bool.false_ne_true
theorem any_eqU {x : V} : ∀ {xs : List V} {us : List Value}, Vals xs us → xs.all flatV = true → us.any (eqU x) = xs.any fun y => eqV y x
  | _, _, .nil, _ => rfl
  | y :: xs, u :: us, .cons r t, f => by
    rw [List.all_cons, Bool.and_eq_true] at f
    rw [List.any_cons, List.any_cons, eqU_of r f.1, any_eqU t f.2]
theorem mem_eqAt {A : Around} {s : Shared} {x : V} {v : Value} (rx : RelV x v) (fx : flatV x = true) : ∀ {xs : List V} {us : List Value}, Vals xs us → xs.all flatV = true → ∀ u ∈ us, SeqAt.EqAt A s u v (eqU x u)
  | _, _, .nil, _ => fun u hu => by cases hu
  | y :: xs, u :: us, .cons r t, f => fun u' hu => by
    rw [List.all_cons, Bool.and_eq_true] at f
    rcases List.mem_cons.mp hu with rfl | hu
    · rw [eqU_of r f.1]; exact eqAt_V r rx f.1 fx
    · exact mem_eqAt rx fx t f.2 u' hu
def inV (x : V) (xs : List V) : Bool := xs.any fun y => eqV y x
/-- x in a list or tuple of flat items -/
def rIn (K : PySem.W.Frag) (neg : Bool) : R2 := fun x y H Q => ∃ p xs, y = .ref p ∧ (SqL K H p xs ∨ SqT K H p xs) ∧ flatV x = true ∧ xs.all flatV = true ∧ Q (.bl (if neg then !inV x xs else inV x xs)) H
theorem op_in_seq : OpR X (compareOp .In) (rIn X.K false) := by
  intro pins s σ H x y v u Q I rx ry h
  obtain ⟨p, xs, rfl, hq, fx, fs, q⟩ := h
  cases ry
  rcases hq with hq | hq
  · obtain ⟨its, r, pl, hz⟩ := I.list hq
    refine SeqAt.in_listAt (eqU x) pl.isList (fun w hw => mem_eqAt rx fx r fs w (by simpa using hw)) ⟨.bl _, H, I, rfl, ?_⟩
    rw [show its.toArray.any (eqU x) = its.any (eqU x) by simp, any_eqU r fs]
    exact q
  · obtain ⟨its, r, pl, hz⟩ := I.tuple hq
    refine SeqAt.in_tupleAt (eqU x) pl (fun w hw => mem_eqAt rx fx r fs w (by simpa using hw)) ⟨.bl _, H, I, rfl, ?_⟩
    rw [show its.toArray.any (eqU x) = its.any (eqU x) by simp, any_eqU r fs]
    exact q
/-! ### len, list(x), tuple(x) of any list or tuple that is read -/
theorem call_len_seq : CallR X (.builtin "len") (fun xs H Q => ∃ p ys, xs = [.ref p] ∧ (SqL X.K H p ys ∨ SqT X.K H p ys) ∧ Q (.int ys.length) H) := by
  intro pins s σ H xs us Q I r h
  obtain ⟨p, ys, rfl, hq, q⟩ := h
  obtain ⟨u, rfl, rx⟩ := vals1 r
  cases rx
  have hn := line63
  rcases hq with hq | hq
  · obtain ⟨its, r', pl, hz⟩ := I.list hq
    have hlen := r'.length
    exact Calls.call_len_list pl.isList (by simp only [List.size_toArray] <;> omega) ⟨.int ys.length, H, I.tok _, ⟨s.toks + 1, by rw [List.size_toArray, hlen]⟩, q⟩
  · obtain ⟨its, r', pl, hz⟩ := I.tuple hq
    have hlen := r'.length
    exact len_tuple pl (by simp only [List.size_toArray] <;> omega) ⟨.int ys.length, H, I.tok _, ⟨s.toks + 1, by rw [List.size_toArray, hlen]⟩, q⟩
theorem call_len_str : CallR X (.builtin "len") (fun xs H Q => ∃ z, xs = [.str z] ∧ z.length ≤ sizeLine ∧ Q (.int z.length) H) := by
  intro pins s σ H xs us Q I r h
  obtain ⟨z, rfl, hz, q⟩ := h
  obtain ⟨u, rfl, t, rfl⟩ := vals1 r
  have hn := line63
  exact len_str (by omega) ⟨.int z.length, H, I.tok _, ⟨_, rfl⟩, q⟩
/-! ### the call of a builtin's method: o.m(..) -/
/-- the value is of that builtin type -/
def tyV (K : PySem.W.Frag) (T : String) (x : V) (H : Hp) : Prop := match x with
  | .str _ => T = "str"
  | .int _ => T = "int"
  | .ref p => (T = "list" ∧ ∃ xs, SqL K H p xs) ∨ (T = "tuple" ∧ ∃ o, K.lookup p = some o ∧ o.cls = .type "tuple" ∧ o.dict = none) ∨
      (T = "dict" ∧ ((∃ kvs, H p = some (.dK kvs)) ∨ ∃ kvs, H p = some (.dT kvs))) ∨ (T = "set" ∧ ∃ S n, H p = some (.set S n))
  | _ => False
theorem tyV_is {pins : List (Addr × Obj)} {σ : St} {H : Hp} {s : Shared} {T : String} {x : V} {v : Value} (I : Inv X pins σ H s) (r : RelV x v) (ty : tyV X.K T x H) :
    s.TypeIs v T ∧ ∀ a, v = .ref a → ∃ ob, s.heap.get? a = some ob ∧ ob.dict = none := by
  cases x with
  | str z =>
    obtain ⟨t, rfl⟩ := r
    cases (show T = "str" from ty)
    exact ⟨typeIs_str s z t, fun _ e => nomatch e⟩
  | int i =>
    obtain ⟨t, rfl⟩ := r
    cases (show T = "int" from ty)
    exact ⟨typeIs_int s i t, fun _ e => nomatch e⟩
  | ref p =>
    cases r
    rcases ty with ⟨rfl, xs, hq⟩ | ⟨rfl, o, hk, hc, hd⟩ | ⟨rfl, hk⟩ | ⟨rfl, S, n, hk⟩
    · obtain ⟨its, _, pl, _⟩ := I.list hq
      refine ⟨pl.isList.typeIs, fun a e => ?_⟩
      cases e
      obtain ⟨o, n, e, c, hd, _⟩ := pl
      exact ⟨o, e, hd⟩
    · refine ⟨⟨o, I.kIn p o hk, hc⟩, fun a e => ?_⟩
      cases e
      exact ⟨o, I.kIn _ o hk, hd⟩
    · have z : ∃ o, s.heap.get? p = some o ∧ o.ExactDict := by
        rcases hk with ⟨kvs, hk⟩ | ⟨kvs, hk⟩
        · obtain ⟨_, _, _, _, o, _, _, e, ex, _⟩ := I.hok p _ hk
          exact ⟨o, e, ex⟩
        · obtain ⟨_, _, _, _, o, _, _, e, ex, _⟩ := I.hok p _ hk
          exact ⟨o, e, ex⟩
      obtain ⟨o, e, ex⟩ := z
      refine ⟨⟨o, e, ex.1⟩, fun a e2 => ?_⟩
      cases e2
      exact ⟨o, e, ex.2.1⟩
    · obtain ⟨o, _, _, _, e, ex, _⟩ := I.hok p _ hk
      refine ⟨⟨o, e, ex.1⟩, fun a e2 => ?_⟩
      cases e2
      exact ⟨o, e, ex.2.1⟩
  | _ => exact False.elim ty
def tBM0 (K : PySem.W.Frag) (T : String) (r : V → List V → Hp → VK → Prop) (to : TE) : TE := fun σ H Q => to σ H fun x H1 => tyV K T x H1 ∧ r x [] H1 Q
def tBM (K : PySem.W.Frag) (T : String) (r : V → List V → Hp → VK → Prop) (to : TE) (t : TA) : TE := fun σ H Q => to σ H fun x H1 => tyV K T x H1 ∧ t σ H1 fun xs H2 => r x xs H2 Q
variable {o e : Expr} {es : List Expr} {to : TE} {t : TA} {name : Str} {apos cpos : Pos} {T id : String} {r : V → List V → Hp → VK → Prop}
theorem pe_bm0 (pa : PlainAttrs T) (slot : Slot T name id) (hty : typeOf (.builtin id) = pure (.type "method_descriptor")) (hm : MtR X id r) (ho : PE X o to)
    (hbase : attributeBase o name X.env (eval o X.env) = eval o X.env := by rfl) (hline : (apos.endLine == cpos.line) = true := by rfl) : PE X (.Call (.Attribute o name apos) [] [] cpos) (tBM0 X.K T r to) := by
  intro pins s σ H Q I h
  refine wpAny_Call_method0_late hbase hline (thn (ho pins s σ H _ I h) fun v s1 ⟨x, H1, I1, r1, ty, q1⟩ => ?_)
  obtain ⟨h1, h2⟩ := tyV_is I1 r1 ty
  exact ⟨T, id, pa, slot, hty, h1, h2, Calls.callWith_builtin rfl (PySem.evalArgs_none (hm pins s1 σ H1 x [] v [] Q I1 r1 .nil q1))⟩
theorem pe_bm (pa : PlainAttrs T) (slot : Slot T name id) (hty : typeOf (.builtin id) = pure (.type "method_descriptor")) (hm : MtR X id r) (ho : PE X o to) (ha : PA X (e :: es) t)
    (hbase : attributeBase o name X.env (eval o X.env) = eval o X.env := by rfl)
    (hfew : ((backTo cpos (starEach (e :: es) X.env)).all (fun x => !x.1) && (backToKw cpos (keywordEach [] X.env)).all (fun x => x.1.isSome)
      && decide ((e :: es).length + ([] : List Keyword).length + (if ([] : List Keyword).isEmpty then 0 else 1) < 30)) = true := by rfl)
    (hline : (apos.endLine == cpos.line) = true := by rfl) (hs : starEach (e :: es) X.env = (false, eval e X.env) :: starEach es X.env := by rfl) (hplain : (backTo cpos (starEach es X.env)).any (·.1) = false := by rfl) :
    PE X (.Call (.Attribute o name apos) (e :: es) [] cpos) (tBM X.K T r to t) := by
  intro pins s σ H Q I h
  refine wpAny_Call_method_late hbase hfew hline rfl (thn (ho pins s σ H _ I h) fun v s1 ⟨x, H1, I1, r1, ty, q1⟩ => ?_)
  obtain ⟨h1, h2⟩ := tyV_is I1 r1 ty
  refine ⟨T, id, pa, slot, hty, h1, h2, ?_⟩
  have hA := ha cpos pins s1 σ H1 _ I1 q1
  rw [hs] at hA ⊢
  refine Calls.callWith_builtin (by show (false || (backTo cpos (starEach es X.env)).any (·.1)) = false; rw [hplain] <;> rfl) (Calls.evalArgs_plain ?_)
  exact thn hA fun us s2 ⟨vs, H2, I2, r2, q2⟩ => hm pins s2 σ H2 x vs v us Q I2 r1 r2 q2
/- xs.append(e), list.index on a module's tuple .. are MtR facts of 06m -/
end
end L2

namespace L2
open PySem PySem.Spec PyProof.Rows

def MtM (X : Cx) (id : String) (r : V → List V → Hp → VK → Prop) : Prop :=
  ∀ (pins : List (Addr × Obj)) (s : Shared) (σ : St) (H : Hp) (x : V) (xs : List V) (v : Value) (us : List Value) (Q : VK), Inv X pins σ H s → RelV x v → Vals xs us → r x xs H Q →
    wpAny (model X.prog X.w) X.A (call (.builtin id) (v :: us)) (EP X pins σ Q) X.xe s

/-! ### lists of values -/
theorem Vals.one : ∀ {x : V} {us : List Value}, Vals [x] us → ∃ u, us = [u] ∧ RelV x u
  | _, _, .cons r .nil => ⟨_, rfl, r⟩
theorem Vals.zero : ∀ {us : List Value}, Vals [] us → us = []
  | _, .nil => rfl
theorem Vals.dropLast {xs : List V} {us : List Value} (h : Vals xs us) : Vals xs.dropLast us.dropLast := by
  induction h with
  | nil => exact .nil
  | cons r t ih =>
    cases t with
    | nil => exact .nil
    | cons q t' => exact .cons r ih
theorem Vals.rep {xs : List V} {us : List Value} (h : Vals xs us) : ∀ k : Nat, Vals (List.replicate k xs).flatten (List.replicate k us).flatten
  | 0 => .nil
  | k + 1 => by
    rw [List.replicate_succ, List.replicate_succ, List.flatten_cons, List.flatten_cons]
    exact Vals.append h (Vals.rep h k)
theorem erase_last {α : Type} (l : List α) : l.eraseIdx (l.length - 1) = l.dropLast := by
  induction l with
  | nil => rfl
  | cons a r ih =>
    cases r with
    | nil => rfl
    | cons b r =>
      have e : (a :: b :: r).length - 1 = ((b :: r).length - 1) + 1 := by
        have h1 : (a :: b :: r).length = r.length + 2 := rfl
        have h2 : (b :: r).length = r.length + 1 := rfl
        omega
      rw [e, List.eraseIdx_cons_succ, ih]
      all_goals rfl
theorem foldl_rep (its : List Value) : ∀ (k : Nat) (acc : List Value),
    List.foldl (fun x1 x2 => x1 ++ x2) acc.toArray (List.replicate k its.toArray) = (acc ++ (List.replicate k its).flatten).toArray
  | 0, acc => by simp
  | k + 1, acc => by
    have e : acc.toArray ++ its.toArray = (acc ++ its).toArray := by simp
    have e2 : (acc ++ its) ++ (List.replicate k its).flatten = acc ++ (List.replicate (k + 1) its).flatten := by
      rw [List.replicate_succ, List.flatten_cons, List.append_assoc]
    rw [← e2, ← foldl_rep its k (acc ++ its), ← e, List.replicate_succ, List.foldl_cons]

section
variable {X : Cx} {pins : List (Addr × Obj)} {σ : St} {H : Hp} {s : Shared} {l b : Addr} {xs ys zs : List V}

/-! ### the two steps: a tracked list is rewritten, a new list is laid -/
theorem Inv.lset {its its' : List Value} {n : Nat} {f : Array Value → Array Value} {t' : Nat} (I : Inv X pins σ H s) (hH : H l = some (.lst xs))
    (e : s.heap.get? l = some { cls := .type "list", data := .seq its.toArray n }) (hf : f its.toArray = its'.toArray) (hv : Vals ys its') (hz : ys.length ≤ sizeLine) :
    Inv X pins σ (upd H l (.lst ys)) { s with heap := s.heap.update l (Obj.mapSeq f), toks := t' } := by
  have q := PySem.IsL.update e f
  rw [hf] at q
  refine I.write (x := l) (e := l) (by rw [hH]; exact trivial) (.inl rfl) (fun b' u hb hu => (Heap.get?_update_other s.heap (Obj.mapSeq f) (Ne.symm hb)).trans hu) ⟨_, q⟩ ?_
  exact ⟨hz, its', _, hv, q⟩
theorem Inv.lnew {its : List Value} {t' : Nat} (I : Inv X pins σ H s) (hv : Vals ys its) (hz : ys.length ≤ sizeLine) :
    Inv X pins σ (upd H s.heap.objs.size (.lst ys)) { s with heap := s.heap.push { cls := .type "list", data := .seq its.toArray }, toks := t' } :=
  I.laid (fun _ _ q => Heap.get?_push_of_some _ q) (Nat.le_refl _) ⟨hz, its, 0, hv, Heap.get?_push_size _ rfl⟩
theorem Inv.fresh (I : Inv X pins σ H s) : H s.heap.objs.size = none := I.hok.fresh (Nat.le_refl _)
theorem Inv.lstM (I : Inv X pins σ H s) (hH : H l = some (.lst xs)) : xs.length ≤ sizeLine ∧ ∃ (its : List Value) (n : Nat), Vals xs its ∧ xs.length = its.length ∧ s.heap.get? l = some { cls := .type "list", data := .seq its.toArray n } := by
  obtain ⟨z, its, n, r, e⟩ := I.hok l _ hH
  exact ⟨z, its, n, r, r.length, e⟩

theorem notLongL {n : Nat} (h : n ≤ sizeLine) : Builtin.List.listTooLong n = false := by
  unfold Builtin.List.listTooLong
  exact decide_eq_false (by omega)
end

section
variable {X : Cx}

/-! ### methods -/
def rAppend : V → List V → Hp → VK → Prop := fun x vs H Q => ∃ l xs y, x = .ref l ∧ vs = [y] ∧ H l = some (.lst xs) ∧ xs.length < sizeLine ∧ Q .non (upd H l (.lst (xs ++ [y])))
theorem mt_append : MtM X "list.append" rAppend := by
  intro pins s σ H x vs v us Q I rx rv h
  obtain ⟨l, xs, y, rfl, rfl, hH, hz, q⟩ := h
  cases rx
  obtain ⟨u, rfl, ru⟩ := rv.one
  obtain ⟨z, its, n, r, hl, e⟩ := I.lstM hH
  refine call_meets F.slot_list_append ⟨_, e, rfl⟩ F.entry_list_append (F.args_list_append_2 _ _) (PySem.list_append l its.toArray n u (by rw [List.size_toArray]; omega)) ⟨e, ?_⟩
  refine ⟨.non, _, I.lset (its' := its ++ [u]) hH e (by simp) (r.append (.cons ru .nil)) ?_, rfl, q⟩
  rw [List.length_append, List.length_singleton]
  omega

def rExtend : V → List V → Hp → VK → Prop := fun x vs H Q => ∃ l b xs zs, x = .ref l ∧ vs = [.ref b] ∧ H l = some (.lst xs) ∧ H b = some (.lst zs) ∧ xs.length + zs.length ≤ sizeLine ∧ Q .non (upd H l (.lst (xs ++ zs)))
theorem mt_extend : MtM X "list.extend" rExtend := by
  intro pins s σ H x vs v us Q I rx rv h
  obtain ⟨l, b, xs, zs, rfl, rfl, hH, hB, hz, q⟩ := h
  cases rx
  obtain ⟨u, rfl, ru⟩ := rv.one
  cases ru
  obtain ⟨z, its, n, r, hl, e⟩ := I.lstM hH
  obtain ⟨z2, its2, n2, r2, hl2, e2⟩ := I.lstM hB
  have hsz : its.toArray.size + its2.toArray.size ≤ sizeLine := by rw [List.size_toArray, List.size_toArray]; omega
  have hlong : ¬ (!its.toArray.isEmpty && Builtin.List.listTooLong (its.toArray.size + its2.toArray.size)) = true := by
    rw [notLongL hsz, Bool.and_false]
    exact Bool.false_ne_true
  refine call_meets F.slot_list_extend ⟨_, e, rfl⟩ F.entry_list_extend (F.args_list_extend_2 _ _)
    (AutoSeq1.list_extend_list_list_0 l its.toArray n b its2.toArray n2 hlong (by rw [List.size_toArray]; omega) (by omega)) ⟨e, e2, ?_⟩
  refine ⟨.non, _, I.lset (its' := its ++ its2) hH e (by simp) (r.append r2) ?_, rfl, q⟩
  rw [List.length_append]
  omega

def rPop : V → List V → Hp → VK → Prop := fun x vs H Q => ∃ l xs y, x = .ref l ∧ vs = [] ∧ H l = some (.lst xs) ∧ xs[xs.length - 1]? = some y ∧ Q y (upd H l (.lst xs.dropLast))
theorem mt_pop : MtM X "list.pop" rPop := by
  intro pins s σ H x vs v us Q I rx rv h
  obtain ⟨l, xs, y, rfl, rfl, hH, hy, q⟩ := h
  cases rx
  have hus := rv.zero
  subst hus
  obtain ⟨z, its, n, r, hl, e⟩ := I.lstM hH
  obtain ⟨u, hu, ru⟩ := r.get hy
  have hy' : its.toArray[its.toArray.size - 1]? = some u := by
    show its.toArray[its.length - 1]? = some u
    rw [← Array.getElem?_toList, ← hl]
    exact hu
  refine call_meets F.slot_list_pop ⟨_, e, rfl⟩ F.entry_list_pop (F.args_list_pop_1 _) (MeetsSeq.list_pop_last l its.toArray n u hy' (by rw [List.size_toArray]; omega)) ⟨e, ?_⟩
  refine ⟨y, _, I.lset (its' := its.dropLast) hH e ?_ r.dropLast ?_, ru, q⟩
  · show its.toArray.eraseIdxIfInBounds (its.toArray.size - 1) = its.dropLast.toArray
    rw [List.size_toArray, List.eraseIdxIfInBounds_toArray, erase_last]
  · rw [List.length_dropLast]
    omega

def rPopAt : V → List V → Hp → VK → Prop := fun x vs H Q => ∃ l xs i k y, x = .ref l ∧ vs = [.int i] ∧ H l = some (.lst xs) ∧ -(2 ^ 63) ≤ i ∧ i < 2 ^ 63 ∧ seqIndex? i xs.length = some k ∧ xs[k]? = some y ∧ Q y (upd H l (.lst (xs.eraseIdx k)))
def rReverse : V → List V → Hp → VK → Prop := fun x vs H Q => ∃ l xs, x = .ref l ∧ vs = [] ∧ H l = some (.lst xs) ∧ Q .non (upd H l (.lst xs.reverse))
def rClear : V → List V → Hp → VK → Prop := fun x vs H Q => ∃ l xs, x = .ref l ∧ vs = [] ∧ H l = some (.lst xs) ∧ Q .non (upd H l (.lst []))
/-! ### list + list, list += list, list * int -/
def rCat : R2 := fun x y H Q => ∃ l b xs zs, x = .ref l ∧ y = .ref b ∧ H l = some (.lst xs) ∧ H b = some (.lst zs) ∧ xs.length + zs.length ≤ sizeLine ∧ ∀ p, H p = none → Q (.ref p) (upd H p (.lst (xs ++ zs)))
theorem op_cat : OpR X (binaryOp .Add) rCat := by
  intro pins s σ H x y v u Q I rx ry h
  obtain ⟨l, b, xs, zs, rfl, rfl, hH, hB, hz, q⟩ := h
  cases rx
  cases ry
  obtain ⟨z, its, n, r, hl, e⟩ := I.lstM hH
  obtain ⟨z2, its2, n2, r2, hl2, e2⟩ := I.lstM hB
  refine PySem.P.add_list e e2 ?_ (by rw [List.size_toArray, List.size_toArray]; omega)
  have ea : its.toArray ++ its2.toArray = (its ++ its2).toArray := by simp
  rw [ea]
  exact ⟨.ref _, _, I.lnew (t' := s.toks) (r.append r2) (by rw [List.length_append]; omega), rfl, q _ I.fresh⟩
/-- a list times an int (a negative one is nothing) -/
def rRep : R2 := fun x y H Q => ∃ l k xs, x = .ref l ∧ y = .int k ∧ H l = some (.lst xs) ∧ -(2 ^ 63) ≤ k ∧ k < 2 ^ 63 ∧ xs.length * k.toNat ≤ sizeLine ∧
  ∀ p, H p = none → Q (.ref p) (upd H p (.lst (List.replicate k.toNat xs).flatten))
theorem len_rep {α : Type} (xs : List α) (k : Nat) : (List.replicate k xs).flatten.length = k * xs.length := by
  induction k with
  | zero => simp
  | succ k ih => rw [List.replicate_succ, List.flatten_cons, List.length_append, ih, Nat.succ_mul, Nat.add_comm]
theorem op_rep : OpR X (binaryOp .Mult) rRep := by
  intro pins s σ H x y v u Q I rx ry h
  obtain ⟨l, k, xs, rfl, rfl, hH, h1, h2, hz, q⟩ := h
  cases rx
  obtain ⟨t, rfl⟩ := ry
  obtain ⟨z, its, n, r, hl, e⟩ := I.lstM hH
  have hlen : its.toArray.size * k.toNat ≤ sizeLine := by rw [List.size_toArray, ← hl]; exact hz
  have hcap : ¬ its.toArray.size * k.toNat > (2 ^ 63 - 1) / 8 := by
    have : (sizeLine : Nat) ≤ (2 ^ 63 - 1) / 8 := by decide
    omega
  have hfit : ¬ (!Builtin.List.listFitsIndex k) = true := by
    rw [fitsIndex_both h1 h2]
    exact Bool.false_ne_true
  have hlong : ¬ Builtin.List.listTooLong (its.toArray.size * k.toNat) = true := by
    rw [notLongL hlen]
    exact Bool.false_ne_true
  have hnew : List.foldl (fun x1 x2 => x1 ++ x2) #[] (List.replicate (if its.toArray.isEmpty = true then 0 else k.toNat) its.toArray) = (List.replicate k.toNat its).flatten.toArray := by
    have f0 : ∀ m : Nat, List.foldl (fun x1 x2 => x1 ++ x2) #[] (List.replicate m its.toArray) = (List.replicate m its).flatten.toArray := fun m => by
      have := foldl_rep its m []
      rw [List.nil_append] at this
      exact this
    rw [f0]
    cases its with
    | nil => simp
    | cons a r' => rw [if_neg (by simp)]
  refine wpAny_binaryOp_repeat_ref (T := "list") (U := "int") (by decide) ⟨_, e, rfl⟩ (fun s' => typeIs_int s' k t) noFill_list_mul F.fills_int_mul F.slot_int_rmul repeat_list F.slot_int_index.lookup
    (call_meets F.slot_int_rmul (typeIs_int s k t) F.entry_int_rmul (F.args_int_rmul_2 _ _) (int___rmul___int_list k t l its.toArray n)
      ⟨e, rfl, ⟨_, e, rfl⟩, call_meets F.slot_list_mul ⟨_, e, rfl⟩ F.entry_list_mul (F.args_list_mul_2 _ _) (AutoListH.list___mul___list_int_3 l its.toArray n k t hfit hcap hlong) ⟨e, ?_⟩⟩)
  rw [hnew]
  exact ⟨.ref _, _, I.lnew (t' := s.toks) (r.rep k.toNat) (by rw [len_rep, Nat.mul_comm]; exact hz), rfl, q _ I.fresh⟩

/-! ### del xs[i] -/
end

/-! ### xs[a:b] = ys -/
section
variable {prog : Program} {w : World} {A : Around} {E : Value → Shared → Prop} {s : Shared}
end

section
variable {X : Cx}
end
end L2

namespace Att
open PySem PySem.W PySem.Calls PyProof.Rows

/-! ### the script -/
theorem ints_of_wellAll {P : Params} {h : Heap} : ∀ (ns : List Int) (vs : List Value), WellAll P h vs (ns.map WData.int) → IntsAre vs ns := by
  intro ns
  induction ns with
  | nil =>
    intro vs w
    rw [List.map_nil] at w
    cases w
    exact .nil
  | cons n ns ih =>
    intro vs w
    rw [List.map_cons] at w
    cases w with
    | cons a b =>
      cases a
      exact .cons _ _ (ih _ b)

theorem script_of {l : OpenLaw} {n : Nat} (hn : l.most = some n) {P : Params} {h : Heap} {args : List WData} {vals : List Value}
    (hpre : l.row.toRowW.claim.pre args = true) (hwl : WellAll P h vals args) :
    ∃ a vs ns, vals = [Value.ref a] ∧ args = [WData.list (ns.map WData.int)] ∧ h.get? a = some { cls := .type "list", data := .seq vs.toArray } ∧ IntsAre vs ns ∧ ns.length ≤ n := by
  have hsh : WShape.hasAll [] args [.list .int] = true := (pre_splitW hpre).1
  have hc : l.pre.holds [] { args := args } = true := (pre_splitW hpre).2
  obtain ⟨d, r, rfl, h1, h2⟩ := hasAllW_cons hsh
  obtain rfl := hasAllW_nil h2
  obtain ⟨xs, rfl, h3⟩ := hasW_list h1
  obtain ⟨ns, rfl⟩ := items_int h3
  have hlen : ns.length ≤ n := by
    unfold OpenLaw.pre at hc
    have h4 : (WTm.not (.lt (.lit (.int (n : Int))) (.len (.arg 0)))).holds [] { args := [.list (ns.map .int)] } = true := by
      have h4 := (holds_andW hc).1
      rw [hn] at h4
      exact h4
    have h5 := condW_of h4 (w_not (w_lt w_lit (w_len_list (w_arg rfl))))
    rw [List.length_map] at h5
    refine Nat.le_of_not_lt fun q => ?_
    have q' : (n : Int) < ((ns.length : Nat) : Int) := by omega
    first
      | (rw [decide_eq_true q'] at h5; exact absurd h5 (by decide))
      | (simp at h5; omega)
  cases hwl with
  | cons w1 w2 =>
    cases w2
    cases w1 with
    | list ho hall => exact ⟨_, _, ns, rfl, rfl, ho, ints_of_wellAll ns _ hall, hlen⟩

theorem post_true (l : OpenLaw) (args : List WData) : l.row.toRowW.claim.post args (.bool true) args = true :=
  postW_of (r := l.row.toRowW) (X := (true == true))
    (show WShape.has [] (.bool true) .bool = true by first | rfl | decide | simp [WShape.has, WShape.arms, WShape.armsAll])
    (show (WTm.eq .res (.lit (.bool true))).value [] { args := args, res := some (.bool true), after := args } = some (.bool (true == true)) from w_eq_bool (w_res rfl) w_lit) rfl

/-! ### the attachment: holds_open's last premise (the goal 'hc' behind k_head) from a wpAny of the law's body -/
/-- the same from a codeAny of the CALL (for a layer whose function contracts speak of calls) -/
theorem attach_call {l : OpenLaw} {n : Nat} {q : Program} {loose : List Str} {XP : (Str → Option Value) → Heap → Prop} {YP : World → Heap → Prop} {d : DefRec}
    (hn : l.most = some n) (hdf : d.params.defaults = [])
    (call : ∀ (w : World) (s₀ s₁ : Shared) (mg mb : Str → Option Value) (fa : Addr) (o : Obj) (pm cd doc : Value) (a : Addr) (vs : List Value) (ns : List Int),
      Ground q loose [] XP w s₀ mg mb s₁.heap → YP w s₁.heap →
      s₁.heap.get? fa = some o → o.data = .func (docDef d.name d.params d.body d.scope pm cd doc) → s₁.heap.CodeRec cd d.name → mg d.name = some (.ref fa) →
      s₁.heap.get? a = some { cls := .type "list", data := .seq vs.toArray } → IntsAre vs ns → ns.length ≤ n → s₁.gens = #[] →
      codeAny (model l.prog w) callerA (.call (.ref fa) ⟨[.ref a], []⟩) (fun r s' => r = .ok (.ret (.bool true)) ∧ OldK s₁.heap s'.heap ∧ s'.os = s₁.os ∧ AllBare s'.gens) s₁) :
    WalkO q loose XP YP l.row.toRowW d [] (fun f vs => PySem.call f vs) := by
  intro w s₀ s₁ mg mb G Y fa o pm cd doc dV kV ho hd hcd hD hmg hg args vals as hpre hlay hrd hwl hlo
  obtain rfl : dV = .none := Dflts.none hD hdf
  obtain rfl : kV = .none := Dflts.noKw hD
  obtain ⟨a, vs, ns, rfl, rfl, hobj, hints, hlen⟩ := script_of hn hpre hwl
  refine enter_call (codeAny_mono (call w s₀ s₁ mg mb fa o pm cd doc a vs ns G Y ho (fd_plain hd) hcd hmg hobj hints hlen hg) fun r s' hq => ?_)
  obtain ⟨rfl, h2, h3, h4⟩ := hq
  exact ⟨.inl ⟨.bool true, .bool true, [], rfl, fun _ => rfl, .bool true, post_true l _, fun _ => ⟨List.Pairwise.nil, fun _ hm => (nomatch hm)⟩⟩, h2, h3, h4⟩

/-! ### rules over ANY heap (no ledger) from facts about the written part K: the library's own take a ledger (News) for what they write -/
section
variable {prog : Program} {w : World} {A : Around} {E : Value → Shared → Prop} {s : Shared} {K : Frag}

/-! the whole heap as the ledger: makes every rule that writes through a ledger a rule over any heap -/
def noObjs (h : Heap) : Heap := { h with objs := #[] }
def ledger (h : Heap) (L d : Addr) : List (Addr × Obj) := (List.range h.objs.size).filterMap fun a => if a = L ∨ a = d then none else (h.get? a).map fun o => (a, o)
end
end Att

namespace L2
open PySem PySem.Spec PyProof.Rows

theorem vals_ints : ∀ {vs : List Value} {ns : List Int}, IntsAre vs ns → Vals (ns.map V.int) vs
  | _, _, .nil => .nil
  | _, _, .cons n t h => .cons ⟨t, rfl⟩ (vals_ints h)

/-- nothing is tracked but the script, known to the object (or it is an object of the module) -/
def Only (H : Hp) : Prop := ∀ b, H b = none ∨ ∃ o xs, H b = some (.frz o (.lst xs))

/-- THE HEAD: the law's promise, at the heap behind the top. F, the promise of the law's def, may use that base is part of the heap (so K.In base, base.Ns mainGlobals mg stand in Mod) -/
theorem law_call {P : Program} {w : World} {K : PySem.W.Frag} {mg mb : Str → Option Value} {CX : CXT} {k : Nat} {fa a : Addr} {fd : FuncData} {x : Str} {sp : Sp} {s₁ : Shared} {vs : List Value} {ns : List Int}
    (KX : K.In s₁.heap) (hns : s₁.heap.Ns mainGlobals mg) (hb : s₁.heap.Ns builtinsNs mb) (hbb : ∀ x : Str, x ≠ "__name__" → mb x = bootBuiltins x) (hlim : s₁.heap.NoLimit) (hsm : ∃ mm, s₁.heap.Ns sysModules mm) (hg : s₁.gens = #[])
    (ha : s₁.heap.get? a = some { cls := .type "list", data := .seq vs.toArray }) (hi : IntsAre vs ns) (hl : ns.length ≤ sizeLine) (hr : Room k callerA)
    (F : ∀ base : Heap, K.In base → base.Ns mainGlobals mg → FnOk P w K mg base CX k fa fd [x] sp) (hbind : ∀ (s : Shared) (u : Value), BindsTo s fd ⟨[u], []⟩ [(x, u)])
    (hsp : ∀ H : Hp, Only H → SqL K H a (ns.map V.int) → sp [.ref a] H (fun v _ => v = .bl true) fun _ _ _ => False)
    (hCX : ∀ H e s', CX [] H s₁ (fun _ _ _ => False) e s' → False) :
    codeAny (model P w) callerA (.call (.ref fa) ⟨[.ref a], []⟩) (fun r s' => r = .ok (.ret (.bool true)) ∧ OldK s₁.heap s'.heap ∧ s'.os = s₁.os ∧ AllBare s'.gens) s₁ := by
  have rv := vals_ints hi
  have lenV := hi.length
  -- from an abstract heap in which nothing but the script may be tracked
  have core : ∀ H : Hp, Only H → SqL K H a (ns.map V.int) → HOk P w H s₁.heap → (∀ b, H b ≠ none → b = a) → (H a ≠ none → K.lookup a = none) →
      codeAny (model P w) callerA (.call (.ref fa) ⟨[.ref a], []⟩) (fun r s' => r = .ok (.ret (.bool true)) ∧ OldK s₁.heap s'.heap ∧ s'.os = s₁.os ∧ AllBare s'.gens) s₁ := by
    intro H hO hS hok hA hK
    have base_of : ∀ {b : Addr} {o : Obj}, s₁.heap.get? b = some o → H b = none → (hidT s₁.heap H).get? b = some o := fun e n => hidT_get e n
    have noA : ∀ {b : Addr} {o : Obj} {es : Array DictEntry} {ep : Nat}, s₁.heap.get? b = some o → o.data = .dict es ep → H b = none := fun {b o es ep} e d => by
      cases q : H b with
      | none => rfl
      | some u =>
        have e' : b = a := hA b (by rw [q]; simp)
        subst e'
        rw [ha] at e; cases e
        have d' : Data.seq vs.toArray _ = Data.dict es ep := d
        cases d'
    have nsK : ∀ {b : Addr} {m : Str → Option Value}, s₁.heap.Ns b m → (hidT s₁.heap H).Ns b m := fun {b m} ⟨o, es, ep, e, d, r⟩ => ⟨o, es, ep, base_of e (noA e d), d, r⟩
    have hKb : K.In (hidT s₁.heap H) := fun b o e => base_of (KX b o e) (by
      cases q : H b with
      | none => rfl
      | some u =>
        have e' : b = a := hA b (by rw [q]; simp)
        subst e'
        rw [hK (by rw [q]; simp)] at e; cases e)
    have hM : Mod K mg (hidT s₁.heap H) := ⟨hKb, nsK hns, ⟨mb, nsK hb, hbb⟩, let ⟨mc, h1, h2⟩ := hlim; ⟨mc, nsK h1, h2⟩, let ⟨mm, h1⟩ := hsm; ⟨mm, nsK h1⟩⟩
    have e0 : Env0 P w K mg (hidT s₁.heap H) callerA [] s₁ H := ⟨rfl, hM, fun b o e => of_hidT e, Nat.le_of_eq (hidT_size _ _), trivial, fun b hb => absurd (show b ∈ ([] : List Addr) from hb) (by simp), hok, .of_eq hg⟩
    refine codeAny_mono ((F _ hKb (nsK hns)).run callerA [] s₁ H ⟨[.ref a], []⟩ [.ref a] [.ref a] _ _ hr e0 (hbind s₁ (.ref a)) (.cons rfl .nil) (hsp H hO hS)) fun r s' h => ?_
    cases r with
    | error e => exact (hCX H e s' h).elim
    | ok fl =>
      cases fl with
      | next => exact False.elim h
      | brk => exact False.elim h
      | cont => exact False.elim h
      | ret u =>
        obtain ⟨v, H', os, bare, un, hok', r', q⟩ := h
        have q' : v = .bl true := q
        subst q'
        obtain rfl : u = Value.bool true := r'
        refine ⟨rfl, OldK.of_keep fun b o e => ?_, os, bare⟩
        cases q : H b with
        | none => exact un.keep b o e q (by intro z; exact absurd (show b ∈ ([] : List Addr) from z) (by simp)) (by simp)
        | some u =>
          rcases hO b with z | ⟨ob, xs, z⟩
          · rw [q] at z; cases z
          · have z2 := un.frzs b ob _ z
            obtain ⟨e1, _⟩ := hok b _ z
            obtain ⟨e2, _⟩ := hok' b _ z2
            rw [e] at e1; cases e1
            exact e2
  cases hk : K.lookup a with
  | some o =>
    -- the script is one of the module's own objects
    have e := KX a o hk
    rw [ha] at e
    cases e
    refine core (fun _ => none) (fun _ => .inl rfl) (.inr ⟨_, vs.toArray, _, hk, rfl, rfl, rfl, by rw [List.size_toArray, lenV]; exact hl, by simpa using rv⟩) (fun b u z => by have z' : (none : Option HO) = some u := z; cases z') (fun b z => absurd rfl z) fun z => absurd rfl z
  | none =>
    refine core (fun b => if b = a then some (.frz { cls := .type "list", data := .seq vs.toArray } (.lst (ns.map V.int))) else none) (fun b => ?_) (.inl (.inr ⟨{ cls := .type "list", data := .seq vs.toArray }, if_pos rfl⟩)) (fun b u z => ?_) (fun b z => ?_) fun _ => hk
    · by_cases hb : b = a
      · exact .inr ⟨_, _, if_pos hb⟩
      · exact .inl (if_neg hb)
    · by_cases hb : b = a
      · have z' := (if_pos hb).symm.trans z
        cases z'
        subst hb
        exact ⟨ha, by rw [List.length_map]; exact hl, vs, _, rv, ha⟩
      · have z' := (if_neg hb).symm.trans z
        cases z'
    · by_cases hb : b = a
      · exact hb
      · exact absurd (if_neg hb) z
end L2

namespace L2
open PySem PySem.Spec PyProof.Rows

abbrev KOf {K : PySem.W.Frag} {h : Heap} (_ : K.In h) : PySem.W.Frag := K

/-- the goal that k_head leaves (case hc), from the law's promise. F gives the function object fd (K's own) once, then the promise over every base -/
theorem walk_of {l : PySem.W.OpenLaw} {n k : Nat} {q : Program} {loose : List Str} {XP : (Str → Option Value) → Heap → Prop} {YP : World → Heap → Prop} {d : DefRec} {K : Params → PySem.W.Frag} {CX : World → CXT} {sp : World → Sp} {x : Str}
    (hn : l.most = some n) (hn2 : n ≤ sizeLine) (hdf : d.params.defaults = []) (hr : Room k callerA) (hi : PyProof.Rows.importsNone q = true)
    (hY : ∀ (w : World) (h : Heap), YP w h → (K w.params).In h)
    (F : ∀ (w : World) (mg : Str → Option Value) (fa : Addr) (h : Heap), (K w.params).In h → h.Ns mainGlobals mg → mg d.name = some (.ref fa) →
      ∃ fd : FuncData, (∀ (s : Shared) (u : Value), BindsTo s fd ⟨[u], []⟩ [(x, u)]) ∧
        ∀ base : Heap, (K w.params).In base → base.Ns mainGlobals mg → FnOk l.prog w (K w.params) mg base (CX w) k fa fd [x] (sp w))
    (hsp : ∀ (w : World) (H : Hp) (a : Addr) (ns : List Int), ns.length ≤ n → Only H → SqL (K w.params) H a (ns.map V.int) → sp w [.ref a] H (fun v _ => v = .bl true) fun _ _ _ => False)
    (hCX : ∀ (w : World) (H : Hp) (s : Shared) (e : Value) (s' : Shared), CX w [] H s (fun _ _ _ => False) e s' → False) :
    PySem.W.WalkO q loose XP YP l.row.toRowW d [] (fun f vs => PySem.call f vs) := by
  refine Att.attach_call hn hdf fun w s₀ s₁ mg mb fa o pm cd doc a vs ns G Y ho hd hcd hmg hobj hints hlen hg => ?_
  have KX := hY w _ Y
  obtain ⟨fd, hb, hF⟩ := F w mg fa _ KX G.T.g hmg
  exact law_call KX G.T.g G.T.b G.T.builtins G.T.nolimit (let ⟨mm, h1, _⟩ := (G.T.seer hi).mods; ⟨mm, h1⟩) hg hobj hints (Nat.le_trans hlen hn2) hr hF hb (fun H hO hS => hsp w H a ns hlen hO hS) fun H e s' => hCX w H s₁ e s'
end L2

/- THE LAST THEOREM (shape; LID, My.* are yours):
   My.Adr: a structure of the addresses that your layer names (classes, functions); My.Txt K t: a structure (Prop) of the equations over K;
   My.txt_mk : {K} {implicit addresses ..} (e1 : nsIn K mainGlobals "law" = some (some (.ref f))) (e2 : K.lookup f = some ⟨oc, od, .func (fnOf "law" "law" params body scope dV kV doc pm an cdv ct), sl⟩) (e3 : codeIn K cdv "law" = true) .. : ∃ t, My.Txt K t

set_option maxRecDepth 100000 in
set_option maxHeartbeats 0 in
theorem PySem.Challenge.cw_LID_holds : PySem.Challenge.rw_LID.Holds := by
  w_on; o_law; k_head; (case hw => w_witness2)
  k_fill
  refine L2.walk_of (l := PySem.Challenge.rw_LID) (n := 63) (k := 40) (x := "script") (CX := fun w => ..) (sp := fun _ => My.sp_law) rfl (by decide) rfl ⟨rfl, by decide, by decide⟩ (fun w h Y => PySem.W.kIn_of Y) ?F ?S ?C
  case F =>
    intro w mg fa h KX G hmg
    have T : ∃ t, My.Txt (L2.KOf KX) t := by
      dsimp only [L2.KOf]                          -- K must stand as «<heap const> w.params» for k_is
      refine' My.txt_mk ?e1 ?e2 ?e3 ..
      (case e1 => PySem.W.k_is)                    -- in the order: a name -> its address -> its object -> its parts
      (case e2 => PySem.W.k_is)
      ..
    obtain ⟨t, T⟩ := T
    have e0 := hmg.symm.trans (PySem.W.mg_of KX G T.law)
    cases e0                                       -- fa is the law's own address
    exact ⟨_, fun s u => .of_eq rfl, fun base kb nb => My.law_fn T kb nb⟩     -- if «.of_eq rfl» comes too early: refine' ⟨_, ?b, fun base kb nb => My.law_fn T kb nb⟩; exact fun s u => .of_eq rfl
  case S => exact fun w H a ns hl hO hS => ..
  case C => exact ..
(the tactic k_is has no namespace: write k_is) -/

/-! SHORT WORDS over the layer: a def of the text, its body, what a loop and a test want. -/
namespace L2
open PySem PySem.Spec PyProof.Rows

/-! ### the text by places -/
/-- the j-th statement of a class's body -/
def inClass (s : Stmt) (j : Nat) : Stmt := match s with
  | .ClassDef _ _ _ body _ _ _ _ _ _ _ => body.getD j (.Pass ⟨0, 0, 0, 0⟩)
  | _ => .Pass ⟨0, 0, 0, 0⟩
def defArgs (s : Stmt) : Arguments := match s with
  | .FunctionDef _ a _ _ _ _ _ _ _ _ => a
  | _ => { posonlyargs := [], args := [], vararg := none, kwonlyargs := [], kw_defaults := [], kwarg := none, defaults := [] }
def defBody (s : Stmt) : List Stmt := match s with
  | .FunctionDef _ _ b _ _ _ _ _ _ _ => b
  | _ => []
def defScope (s : Stmt) : Scope := match s with
  | .FunctionDef _ _ _ _ _ _ sc _ _ _ => sc
  | _ => { kind := .function, names := [], isGenerator := false, isCoroutine := false }

/-! ### no exception leaves a def -/
abbrev CX0 : CXT := fun _ _ _ _ _ _ => False
abbrev E0 : XK := fun _ _ _ => False
theorem pass0 {X : Cx} : Passes CX0 X E0 := fun _ _ _ _ _ _ _ h => h.elim

/-! ### a def (or method) of the text as it stands behind the top -/
structure Fun (K : PySem.W.Frag) (x qual : Str) (st : Stmt) (f : Addr) (fd : FuncData) : Prop where
  ex : ∃ (oc : Value) (od : Option Addr) (kV doc pm : Value) (an : Option Addr) (cdv ct : Value) (osl : Array (Option Value)),
    fd = PySem.W.fnOf x qual (defArgs st) (defBody st) (defScope st) .none kV doc pm an cdv ct ∧ K.lookup f = some ⟨oc, od, .func fd, osl⟩ ∧ PySem.W.codeIn K cdv qual = true
  kp : PySem.W.keepIn K (.ref f) = true
section
variable {P : Program} {w : World} {K : PySem.W.Frag} {mg : Str → Option Value} {base : Heap}
/-- THE RULE for a def: its body as a term of rules, and the reading of that term -/
theorem Fun.ok {x qual : Str} {st : Stmt} {f : Addr} {fd : FuncData} {N ps : List Str} {k : Nat} {sp : Sp} (F : Fun K x qual st f fd) (S : FnScope N ps (defScope st)) (len : ∀ vs H Q E, sp vs H Q E → vs.length = ps.length)
    (hbody : ∀ (cdv : Value) (A : Around) (outer : List Env) (s : Shared) (H : Hp) (vs : List V) (Q : VK) (E : XK), Room k (A.deeper (envOfC qual (defScope st) s.heap.objs.size f cdv)) → sp vs H Q E →
      ∃ t, PSs (cxOf CX0 P w K mg base N qual (defScope st) f cdv A outer s H E).nox (defBody st) t ∧ t { nx := fun _ H' => Q .non H', rt := Q } (start N vs) H) : FnOk P w K mg base CX0 (k + 1) f fd ps sp := by
  obtain ⟨oc, od, kV, doc, pm, an, cdv, ct, osl, rfl, lk, hcd⟩ := F.ex
  refine fn_of lk hcd S len fun A outer s H vs Q E hr hsp => ?_
  obtain ⟨t, h, q⟩ := hbody cdv A outer s H vs Q E hr hsp
  exact ⟨t, h.nox, q⟩
/-- how its arguments bind (no defaults): h is «fun _ _ _ _ _ _ us hl => match us, hl with | [_, _], _ => rfl», one _ a parameter -/
theorem Fun.binds {x qual : Str} {st : Stmt} {f : Addr} {fd : FuncData} {ps : List Str} (F : Fun K x qual st f fd)
    (h : ∀ (kV doc pm : Value) (an : Option Addr) (cdv ct : Value) (us : List Value), us.length = ps.length → bindArgs (PySem.W.fnOf x qual (defArgs st) (defBody st) (defScope st) .none kV doc pm an cdv ct) ⟨us, []⟩ = pure (ps.zip us)) : Binds K fd ps [] := by
  obtain ⟨oc, od, kV, doc, pm, an, cdv, ct, osl, rfl, lk, hcd⟩ := F.ex
  exact .all (h kV doc pm an cdv ct)
theorem fun_mk {x qual : Str} {st : Stmt} {f : Addr} {oc : Value} {od an : Option Addr} {osl : Array (Option Value)} {kV doc pm cdv ct : Value} (l : K.lookup f = some ⟨oc, od, .func (PySem.W.fnOf x qual (defArgs st) (defBody st) (defScope st) .none kV doc pm an cdv ct), osl⟩)
    (c : PySem.W.codeIn K cdv qual = true) (k : PySem.W.keepIn K (.ref f) = true) : Fun K x qual st f (PySem.W.fnOf x qual (defArgs st) (defBody st) (defScope st) .none kV doc pm an cdv ct) := ⟨⟨oc, od, kV, doc, pm, an, cdv, ct, osl, rfl, l, c⟩, k⟩
end
theorem small1000 {n : Nat} (h : n ≤ 1000) : n < sizeLine := Nat.lt_of_le_of_lt h (by decide)

/-! ### expressions in short: the name that stands in the i-th slot -/
section
variable {X : Cx}
theorem pv (i : Nat) {x : Str} {pos : Pos} (hN : X.N[i]? = some x := by rfl) (hv : Vis X.env.scope x := by first | exact Or.inl rfl | exact Or.inr (Or.inl rfl) | exact Or.inr (Or.inr rfl)) (hd : (x == ("__debug__" : Str)) = false := by decide)
    (hcd : (x == ("__classdict__" : Str)) = false := by decide) : PE X (.Name x pos) (tVar i) := pe_var hN hv hd hcd
end

/-! ### tests -/
theorem iteF {A B : Prop} (h : B) : if false = true then A else B := by
  rw [if_neg Bool.false_ne_true]
  exact h
theorem iteT {A B : Prop} (h : A) : if true = true then A else B := by
  rw [if_pos rfl]
  exact h
theorem ite2 {c A B : Prop} [Decidable c] (h1 : c → A) (h2 : ¬ c → B) : if c then A else B := by
  by_cases h : c
  · rw [if_pos h]
    exact h1 h
  · rw [if_neg h]
    exact h2 h
theorem iteNS {c A B : Prop} [Decidable c] (hc : c) (h : B) : if (!decide c) = true then A else B := by
  rw [decide_eq_true hc]
  exact iteF h

/-! ### heaps -/
/-- all that was tracked is as it was -/
def Same (H H' : Hp) : Prop := ∀ b o, H b = some o → H' b = some o
theorem Same.refl (H : Hp) : Same H H := fun _ _ h => h
theorem Same.trans {H H1 H2 : Hp} (a : Same H H1) (b : Same H1 H2) : Same H H2 := fun c o h => b c o (a c o h)
theorem Same.free {H H' : Hp} (e : Same H H') {l : Addr} (h : H' l = Option.none) : H l = Option.none := by
  cases q : H l with
  | none => rfl
  | some o =>
    rw [e l o q] at h
    cases h
theorem Same.seq {K : PySem.W.Frag} {H H' : Hp} {a : Addr} {xs : List V} (e : Same H H') (h : SqL K H a xs) : SqL K H' a xs := by
  rcases h with (h | ⟨o, h⟩) | h
  · exact .inl (.inl (e _ _ h))
  · exact .inl (.inr ⟨o, e _ _ h⟩)
  · exact .inr h

end L2

set_option Elab.async false
set_option linter.all false
set_option maxRecDepth 100000
namespace L2
open PySem PySem.Spec PyProof.Rows

/-! ### lists of pairs as tables -/
section
variable {κ : Type} [DecidableEq κ]
def valV (kvs : List (κ × V)) (k : κ) : Option V := (kvs.find? fun kv => decide (kv.1 = k)).map (·.2)
/-- in its place, or at the end -/
def putK (kvs : List (κ × V)) (k : κ) (v : V) : List (κ × V) :=
  if (kvs.any fun kv => decide (kv.1 = k)) = true then kvs.map (fun kv => if kv.1 = k then (kv.1, v) else kv) else kvs ++ [(k, v)]
def dropK (kvs : List (κ × V)) (k : κ) : List (κ × V) := kvs.filter fun kv => decide (kv.1 ≠ k)

theorem valV_pos {p : κ × V} {r : List (κ × V)} {k : κ} (e : p.1 = k) : valV (p :: r) k = some p.2 := by simp [valV, List.find?_cons, e]
theorem valV_neg {p : κ × V} {r : List (κ × V)} {k : κ} (e : ¬ p.1 = k) : valV (p :: r) k = valV r k := by simp [valV, List.find?_cons, e]
theorem valV_any (k : κ) : ∀ kvs : List (κ × V), (kvs.any fun kv => decide (kv.1 = k)) = (valV kvs k).isSome
  | [] => rfl
  | p :: r => by
    rw [List.any_cons]
    by_cases e : p.1 = k
    · simp only [valV_pos e, decide_eq_true e, Bool.true_or, Option.isSome_some]
    · rw [valV_neg e, decide_eq_false e, Bool.false_or]; exact valV_any k r
theorem length_putK (kvs : List (κ × V)) (k : κ) (v : V) : (putK kvs k v).length ≤ kvs.length + 1 := by
  unfold putK
  split
  · rw [List.length_map]; omega
  · rw [List.length_append, List.length_cons, List.length_nil]; omega
theorem RelO.isSome_eq {o : Option V} {u : Option Value} (r : RelO o u) : o.isSome = u.isSome := by
  cases o with
  | none => cases u with
    | none => rfl
    | some _ => exact (show False from r).elim
  | some _ => cases u with
    | none => exact (show False from r).elim
    | some _ => rfl
theorem RelO.getD {o : Option V} {u : Option Value} {d : V} {d' : Value} (r : RelO o u) (rd : RelV d d') : RelV (o.getD d) (u.getD d') := by
  cases o with
  | none => cases u with
    | none => exact rd
    | some _ => exact (show False from r).elim
  | some _ => cases u with
    | none => exact (show False from r).elim
    | some _ => exact r

/-- raw tables of the same keys -/
theorem KV.val {kvs : List (κ × V)} {vs : List (κ × Value)} (r : KV kvs vs) (k : κ) : RelO (valV kvs k) (valueAt vs k) := by
  unfold KV at r
  induction r with
  | nil => exact True.intro
  | @cons p q ps qs h t ih =>
    obtain ⟨h1, h2⟩ := h
    by_cases e : p.1 = k
    · have e' : q.1 = k := h1.symm.trans e
      have b : valueAt (q :: qs) k = some q.2 := by simp [valueAt, List.find?_cons, e']
      rw [valV_pos e, b]; exact h2
    · have e' : ¬ q.1 = k := fun z => e (h1.trans z)
      have b : valueAt (q :: qs) k = valueAt qs k := by simp [valueAt, List.find?_cons, e']
      rw [valV_neg e, b]; exact ih
theorem KV.any {kvs : List (κ × V)} {vs : List (κ × Value)} (r : KV kvs vs) (k : κ) : (kvs.any fun kv => decide (kv.1 = k)) = vs.any fun kv => decide (kv.1 = k) := by
  unfold KV at r
  induction r with
  | nil => rfl
  | cons h t ih => rw [List.any_cons, List.any_cons, ih, h.1]
theorem KV.repl {kvs : List (κ × V)} {vs : List (κ × Value)} (r : KV kvs vs) (k : κ) {y : V} {u : Value} (ry : RelV y u) :
    KV (kvs.map fun kv => if kv.1 = k then (kv.1, y) else kv) (vs.map fun kv => if kv.1 = k then (kv.1, u) else kv) := by
  unfold KV at r ⊢
  induction r with
  | nil => exact .nil
  | @cons p q ps qs h t ih =>
    rw [List.map_cons, List.map_cons]
    refine .cons ?_ ih
    obtain ⟨h1, h2⟩ := h
    by_cases e : p.1 = k
    · rw [if_pos e, if_pos (h1.symm.trans e)]; exact ⟨h1, ry⟩
    · rw [if_neg e, if_neg (fun z => e (h1.trans z))]; exact ⟨h1, h2⟩
theorem KV.put {kvs : List (κ × V)} {vs : List (κ × Value)} (r : KV kvs vs) (k : κ) {y : V} {u : Value} (ry : RelV y u) : KV (putK kvs k y) (stored vs k u) := by
  unfold putK stored
  rw [r.any k]
  by_cases e : (vs.any fun kv => decide (kv.1 = k)) = true
  · rw [if_pos e, if_pos e]; exact r.repl k ry
  · rw [if_neg e, if_neg e]; exact Paired.snoc r ⟨rfl, ry⟩
theorem KV.length {kvs : List (κ × V)} {vs : List (κ × Value)} (r : KV kvs vs) : kvs.length = vs.length := Paired.length r
end


/-! ### a tracked dict, its keys ints and texts or tuples of these -/
theorem kV_is {P : Program} {w : World} {k : Key} {u : Value} (r : RelV (kV k) u) : (mixKind P w).is k u = true := by
  cases k with
  | inl i => obtain ⟨t, e⟩ := (show ∃ t, u = Value.int i t from r); subst e; exact mixKind_int P w i t
  | inr x => obtain ⟨t, e⟩ := (show ∃ t, u = Value.str x t from r); subst e; exact mixKind_str P w x t
theorem items_are {P : Program} {w : World} : ∀ {ks : List Key} {us : List Value}, Vals (ks.map kV) us → ItemsAre (mixKind P w) ks us
  | [], _, r => by rw [List.map_nil] at r; cases r; exact .nil
  | k :: ks, _, r => by
    rw [List.map_cons] at r
    cases r with
    | cons h t => exact .cons (kV_is h) (items_are t)

/-- raw entries of a dict with tuple keys -/
abbrev KT (H : Hp) : List (List Key × V) → List (List Key × Addr × Value) → Prop := Paired fun p q => p.1 = q.1 ∧ H q.2.1 = some (.tup (p.1.map kV)) ∧ RelV p.2 q.2.2
theorem KT.val {H : Hp} {kvs : List (List Key × V)} {xs : List (List Key × Addr × Value)} (r : KT H kvs xs) (k : List Key) : RelO (valV kvs k) ((atKey xs k).map (·.2)) := by
  induction r with
  | nil => exact True.intro
  | @cons p q ps qs h t ih =>
    obtain ⟨h1, _, h2⟩ := h
    by_cases e : p.1 = k
    · have e' : q.1 = k := h1.symm.trans e
      have b : atKey (q :: qs) k = some q.2 := by simp [atKey, List.find?_cons, e']
      rw [valV_pos e, b]; exact h2
    · have e' : ¬ q.1 = k := fun z => e (h1.trans z)
      have b : atKey (q :: qs) k = atKey qs k := by simp [atKey, List.find?_cons, e']
      rw [valV_neg e, b]; exact ih
theorem KT.repl {H : Hp} {kvs : List (List Key × V)} {xs : List (List Key × Addr × Value)} (r : KT H kvs xs) (k : List Key) {y : V} {u : Value} (ry : RelV y u) :
    KT H (kvs.map fun kv => if kv.1 = k then (kv.1, y) else kv) (xs.map (putAt k u)) := by
  induction r with
  | nil => exact .nil
  | @cons p q ps qs h t ih =>
    rw [List.map_cons, List.map_cons]
    refine .cons ?_ ih
    obtain ⟨h1, h2, h3⟩ := h
    unfold putAt
    by_cases e : p.1 = k
    · rw [if_pos e, if_pos (h1.symm.trans e)]; exact ⟨h1, h2, ry⟩
    · rw [if_neg e, if_neg (fun z => e (h1.trans z))]; exact ⟨h1, h2, h3⟩
theorem KT.put {H : Hp} {kvs : List (List Key × V)} {xs : List (List Key × Addr × Value)} (r : KT H kvs xs) (k : List Key) {b : Addr} {y : V} {u : Value} (hb : H b = some (.tup (k.map kV))) (ry : RelV y u) :
    KT H (putK kvs k y) (storedH xs k b u) := by
  have e : (kvs.any fun kv => decide (kv.1 = k)) = (atKey xs k).isSome := by
    rw [valV_any, (r.val k).isSome_eq, Option.isSome_map]
  unfold putK storedH
  rw [e]
  by_cases q : (atKey xs k).isSome = true
  · rw [if_pos q, if_pos q]; exact r.repl k ry
  · rw [if_neg q, if_neg q]; exact Paired.snoc r ⟨rfl, hb, ry⟩
theorem KT.keeps {H H' : Hp} {kvs : List (List Key × V)} {xs : List (List Key × Addr × Value)} (r : KT H kvs xs) (ht : ∀ b ys, H b = some (.tup ys) → H' b = some (.tup ys)) : KT H' kvs xs :=
  Paired.mapP r fun _ _ z => ⟨z.1, ht _ _ z.2.1, z.2.2⟩

section
variable {P : Program} {w : World} {H : Hp} {h : Heap} {a : Addr}
theorem rd_of {u : HO} (ok : HOk P w H h) (e : Rd H a u) : ObjOk P w H h a u := e.ok ok
theorem dk_rd {kvs : List (Key × V)} (ok : HOk P w H h) (e : Rd H a (.dK kvs)) : kvs.length ≤ sizeLine ∧ (a == sysModules) = false ∧ ∃ vs, KV kvs vs ∧ h.DictOf (mixKind P w) a vs :=
  show ObjOk P w H h a (.dK kvs) from rd_of ok e
theorem dk_of {kvs : List (Key × V)} (ok : HOk P w H h) (e : H a = some (.dK kvs)) : kvs.length ≤ sizeLine ∧ (a == sysModules) = false ∧ ∃ vs, KV kvs vs ∧ h.DictOf (mixKind P w) a vs := dk_rd ok (.inl e)
/-- a tracked tuple of ints and texts is a key -/
theorem key_of {ks : List Key} (ok : HOk P w H h) (e : H a = some (.tup (ks.map kV))) : (tupleKind (mixKind P w)).is h ks a := by
  obtain ⟨_, its, r, o, h1, h2, n, h3⟩ := (show ObjOk P w H h a (.tup (ks.map kV)) from ok a _ e)
  exact ⟨o, its.toArray, n, h1, h2, h3, by simpa using items_are r⟩
theorem dt_rd {kvs : List (List Key × V)} (ok : HOk P w H h) (e : Rd H a (.dT kvs)) : kvs.length ≤ sizeLine ∧ (a == sysModules) = false ∧
    ∃ xs, KT H kvs xs ∧ h.DictOfH (tupleKind (mixKind P w)) a xs := by
  obtain ⟨z, y, xs, r, o, es, ep, h1, h2, h3, h4, h5⟩ := (show ObjOk P w H h a (.dT kvs) from rd_of ok e)
  refine ⟨z, y, xs, r, o, es, ep, h1, h2, h3, h4, fun x hx => ?_, h5⟩
  have all : ∀ {l : List (List Key × V)} {m : List (List Key × Addr × Value)}, KT H l m → ∀ x ∈ m, (tupleKind (mixKind P w)).is h x.1 x.2.1 := by
    intro l m q
    induction q with
    | nil => intro x hx; exact nomatch hx
    | @cons p q ps qs hq t ih =>
      intro x hx
      rcases List.mem_cons.mp hx with e | hx
      · subst e
        exact key_of ok (by rw [← hq.1]; exact hq.2.1)
      · exact ih x hx
  exact all r x hx
theorem dt_of {kvs : List (List Key × V)} (ok : HOk P w H h) (e : H a = some (.dT kvs)) : kvs.length ≤ sizeLine ∧ (a == sysModules) = false ∧
    ∃ xs, KT H kvs xs ∧ h.DictOfH (tupleKind (mixKind P w)) a xs := dt_rd ok (.inl e)
end

/-- what the dict at a holds at the key y -/
def DGet (H : Hp) (a : Addr) (y : V) (r : Option V) : Prop :=
  (∃ kvs k, Rd H a (.dK kvs) ∧ y = kV k ∧ r = valV kvs k) ∨ ∃ kvs k b, Rd H a (.dT kvs) ∧ y = .ref b ∧ H b = some (.tup (k.map kV)) ∧ r = valV kvs k
/-- the heap behind a[y] = v -/
def DPut (H : Hp) (a : Addr) (y v : V) (H' : Hp) : Prop :=
  (∃ kvs k, H a = some (.dK kvs) ∧ y = kV k ∧ kvs.length < sizeLine ∧ H' = upd H a (.dK (putK kvs k v))) ∨
  ∃ kvs k b, H a = some (.dT kvs) ∧ y = .ref b ∧ H b = some (.tup (k.map kV)) ∧ kvs.length < sizeLine ∧ H' = upd H a (.dT (putK kvs k v))
theorem DGet.t {H : Hp} {a b : Addr} {kvs : List (List Key × V)} {k : List Key} (e : H a = some (.dT kvs)) (eb : H b = some (.tup (k.map kV))) : DGet H a (.ref b) (valV kvs k) := .inr ⟨kvs, k, b, .inl e, rfl, eb, rfl⟩
theorem DPut.t {H : Hp} {a b : Addr} {kvs : List (List Key × V)} {k : List Key} {v : V} (e : H a = some (.dT kvs)) (eb : H b = some (.tup (k.map kV))) (hl : kvs.length < sizeLine) :
    DPut H a (.ref b) v (upd H a (.dT (putK kvs k v))) := .inr ⟨kvs, k, b, e, rfl, eb, hl, rfl⟩


section
variable {X : Cx} {pins : List (Addr × Obj)} {σ : St} {H : Hp} {s : Shared} {a : Addr} {y v : V} {u r : Value} {o : Option V} {A : Around} {E : Value → Shared → Prop}

theorem Inv.big (I : Inv X pins σ H s) : sysModules < s.heap.objs.size := by
  have h : mainGlobals < s.heap.objs.size := (I.mod.glob.keeps I.bk).lt
  exact Nat.lt_trans (by decide) h

/-- d[y], there -/
theorem d_getItem {Q : Value → Shared → Prop} (hu : A.units + 1 < cLine) (I : Inv X pins σ H s) (g : DGet H a y (some v)) (ry : RelV y u) (h : ∀ w' s', Inv X pins σ H s' → RelV v w' → Q w' s') :
    wpAny (model X.prog X.w) A (getItem (.ref a) u) Q E s := by
  rcases g with ⟨kvs, k, e, ey, l⟩ | ⟨kvs, k, b, e, ey, eb, l⟩
  · subst ey
    obtain ⟨z, hd, vs, rel, dd⟩ := dk_rd I.hok e
    obtain ⟨w', hw, rw'⟩ := RelO.some_of (v := v) (o := valueAt vs k) (by rw [l]; exact rel.val k)
    exact wpAny_getItem_of (kV_is ry) dd.mapOf hw (h w' _ (I.tok _) rw')
  · subst ey
    cases (show u = Value.ref b from ry)
    obtain ⟨z, hd, xs, rel, dd⟩ := dt_rd I.hok e
    obtain ⟨w', hw, rw'⟩ := RelO.some_of (v := v) (o := (atKey xs k).map (·.2)) (by rw [l]; exact rel.val k)
    obtain ⟨p, hp, hp2⟩ := Option.map_eq_some_iff.mp hw
    refine wpAny_getItem_heap (tupleKind_room_in1 hu) (key_of I.hok eb) dd hp ?_
    rw [hp2]
    exact h w' _ (I.tok _) rw'
/-- a dict's object is replaced -/
theorem d_write {h' : Heap} {t' : Nat} {ob : HO} (I : Inv X pins σ H s) (mu : Mut (H a)) (hs : Heap.SameBut a s.heap h') (he : ∃ q, h'.get? a = some q) (new : ObjOk X.prog X.w (upd H a ob) h' a ob) :
    Inv X pins σ (upd H a ob) { s with heap := h', toks := t' } :=
  I.write (x := a) (e := a) mu (.inl rfl) (fun b q hb z => (hs.2 b hb).trans z) he new
theorem dk_new {P : Program} {w : World} {H' : Hp} {h' : Heap} {kvs : List (Key × V)} {vs : List (Key × Value)} (z : kvs.length ≤ sizeLine) (hd : (a == sysModules) = false) (rel : KV kvs vs) (dd : h'.DictOf (mixKind P w) a vs) :
    ObjOk P w H' h' a (.dK kvs) := ⟨z, hd, vs, rel, dd⟩
/-- d[y] = v -/
theorem d_setItem {H' : Hp} {Q : Unit → Shared → Prop} (hu : A.units + 1 < cLine) (I : Inv X pins σ H s) (g : DPut H a y v H') (ry : RelV y u) (rv : RelV v r) (h : ∀ s', Inv X pins σ H' s' → Q () s') :
    wpAny (model X.prog X.w) A (setItem (.ref a) u r) Q E s := by
  rcases g with ⟨kvs, k, e, ey, l, eH⟩ | ⟨kvs, k, b, e, ey, eb, l, eH⟩
  · subst ey eH
    obtain ⟨z, hd, vs, rel, dd⟩ := dk_of I.hok e
    have hz : vs.length ≤ sizeLine := by rw [← rel.length]; exact z
    have hl : (putK kvs k v).length ≤ sizeLine := by have := length_putK kvs k v; omega
    refine wpAny_setItem_pairs (hsz := hz) (kV_is ry) dd fun h' dd' hs => h _ ?_
    have he : ∃ q, h'.get? a = some q := let ⟨q, _, _, hq, _⟩ := dd'; ⟨q, hq⟩
    exact d_write I (by rw [e]; exact True.intro) hs he (dk_new hl hd (rel.put k rv) dd')
  · subst ey eH
    cases (show u = Value.ref b from ry)
    obtain ⟨z, hd, xs, rel, dd⟩ := dt_of I.hok e
    have hz : xs.length ≤ sizeLine := by rw [← Paired.length rel]; exact z
    have hl : (putK kvs k v).length ≤ sizeLine := by have := length_putK kvs k v; omega
    refine wpAny_setItem_heap (hsz := hz) (tupleKind_room_in1 hu) (key_of I.hok eb) dd fun h' dd' hs => h _ ?_
    obtain ⟨q, es, ep, hq, h2, h3, h4, _, h5⟩ := dd'
    refine d_write I (by rw [e]; exact True.intro) hs ⟨q, hq⟩ ⟨hl, hd, _, (rel.put k eb rv).keeps fun c ys ec => ?_, q, es, ep, hq, h2, h3, h4, h5⟩
    rw [upd_ne (ne_of ec e (fun z => nomatch z))]
    exact ec
end

section
variable {X : Cx} {pins : List (Addr × Obj)} {σ : St} {H : Hp} {s : Shared} {a : Addr} {kvs : List (Key × V)} {k : Key} {u : Value} {A : Around} {E : Value → Shared → Prop}
end


/-! ### readings and rules -/
/-- the element of a subscription, not a slice -/
def NoSl (i : Expr) : Prop := ∀ ov iv, subscripted i false ov iv = operate [ov, iv] (getItem ov iv)
theorem subD_of {prog : Program} {w : World} {A : Around} {E : Value → Shared → Prop} {s : Shared} {env : Env} {value slice : Expr} {pos : Pos} {T id : String} {Q : Value → Shared → Prop}
    (hl : typeLookup (.type T) "__getitem__" = pure (some (.builtin id))) (hs : NoSl slice)
    (h : wpAny (model prog w) A (eval value env) (fun o s₁ => wpAny (model prog w) A (eval slice env) (fun i s₂ => s₂.TypeIs o T ∧ wpAny (model prog w) A (getItem o i) Q E s₂) E s₁) E s) :
    wpAny (model prog w) A (eval (.Subscript value slice pos) env) Q E s := by
  refine Subscript_ (wpAny_mono h (fun o s₁ h₁ => wpAny_mono h₁ (fun i s₂ h₂ => ?_) fun _ _ x => x) fun _ _ x => x)
  obtain ⟨hT, h₂⟩ := h₂
  unfold subscriptTail
  refine wpAny_bind ?_
  rw [getitemInPython_of_ne hT.not_modules]
  refine wpAny_bind (wpAny_specialOf hT hl ?_)
  have fin : wpAny (model prog w) A (subscripted slice false o i) (fun r s₃ => wpAny (model prog w) A (letTemporaryGo value o r >>= fun _ => pure r) Q E s₃) E s₂ := by
    rw [hs o i]
    exact wpAny_operating (wpAny_mono h₂ (fun r s₃ h₃ => wpAny_bind (wpAny_letTemporaryGo (wpAny_pure h₃))) fun _ _ x => x)
  first
    | exact wpAny_pure (wpAny_bind fin)
    | exact wpAny_bind (wpAny_pure (wpAny_bind fin))
    | exact wpAny_bind fin

theorem dict_typeIs {X : Cx} {pins : List (Addr × Obj)} {σ : St} {H : Hp} {s : Shared} {a : Addr} {y : V} {o : Option V} (I : Inv X pins σ H s) (g : DGet H a y o) : s.TypeIs (.ref a) "dict" := by
  rcases g with ⟨kvs, k, e, _, _⟩ | ⟨kvs, k, b, e, _, _, _⟩
  · obtain ⟨_, _, vs, _, dd⟩ := dk_rd I.hok e
    exact dd.typeIs
  · obtain ⟨_, _, xs, _, dd⟩ := dt_rd I.hok e
    exact dd.typeIs
/-- d[y] -/
def tDGet (td ty : TE) : TE := fun σ H Q => td σ H fun x H1 => ty σ H1 fun y H2 => ∃ a v, x = .ref a ∧ DGet H2 a y (some v) ∧ Q v H2
/-- y in d, y not in d -/
def tDIn (ty td : TE) : TE := fun σ H Q => ty σ H fun y H1 => td σ H1 fun x H2 => ∃ a o, x = .ref a ∧ DGet H2 a y o ∧ Q (.bl o.isSome) H2
def tDNotIn (ty td : TE) : TE := fun σ H Q => ty σ H fun y H1 => td σ H1 fun x H2 => ∃ a o, x = .ref a ∧ DGet H2 a y o ∧ Q (.bl (!o.isSome)) H2
/-- d[y] = v -/
def sDPut (td ty tv : TE) : TS := fun D σ H => tv σ H fun v H1 => td σ H1 fun x H2 => ty σ H2 fun y H3 => ∃ a H4, x = .ref a ∧ DPut H3 a y v H4 ∧ D.nx σ H4
/-- d[y] op= v -/
def sDAug (td ty tv : TE) (rd : V → V → Hp → VK → Prop) : TS := fun D σ H => td σ H fun x H1 => ty σ H1 fun y H2 => ∃ a v, x = .ref a ∧ DGet H2 a y (some v) ∧
  tv σ H2 fun y2 H3 => rd v y2 H3 fun z H4 => ∃ H5, DPut H4 a y z H5 ∧ D.nx σ H5
/-- del d[y] -/
def sDDel (td ty : TE) : TS := fun D σ H => td σ H fun x H1 => ty σ H1 fun y H2 => ∃ a kvs k, x = .ref a ∧ H2 a = some (.dK kvs) ∧ y = kV k ∧ (valV kvs k).isSome = true ∧ D.nx σ (upd H2 a (.dK (dropK kvs k)))

section
variable {X : Cx} {o i e value : Expr} {pos pos' tpos : Pos} {td ty tv : TE}
theorem pe_dget (hu : X.A.units + 1 < cLine) (ho : PE X o td) (hi : PE X i ty) (hs : NoSl i) : PE X (.Subscript o i pos) (tDGet td ty) := by
  intro pins s σ H Q I h
  refine subD_of PySem.F.slot_dict_getitem.lookup hs (thn (ho pins s σ H _ I h) fun u s1 ⟨x, H1, I1, rx, q1⟩ => thn (hi pins s1 σ H1 _ I1 q1) fun iv s2 ⟨y, H2, I2, ry, a, v, ex, g, q2⟩ => ?_)
  subst ex
  obtain rfl : u = Value.ref a := rx
  exact ⟨dict_typeIs I2 g, d_getItem hu I2 g ry fun w' s3 I3 rw' => ⟨v, H2, I3, rw', q2⟩⟩
theorem ps_dput (hu : X.A.units + 1 < cLine) (ho : PE X o td) (hi : PE X i ty) (hv : PE X value tv) (hs : swapsWith value (some (.Subscript o i pos')) pos.line X.env = pure false) :
    PS X (.Assign [.Subscript o i pos'] value pos) (sDPut td ty tv) := by
  intro pins s σ H D I h
  refine wpAny_Assign_Subscript (thn (hv pins s σ H _ I h) fun r s1 ⟨v, H1, I1, rv, q1⟩ => thn (ho pins s1 σ H1 _ I1 q1) fun u s2 ⟨x, H2, I2, rx, q2⟩ => thn (hi pins s2 σ H2 _ I2 q2) fun iv s3 ⟨y, H3, I3, ry, a, H4, ex, g, q3⟩ => ?_) hs
  subst ex
  obtain rfl : u = Value.ref a := rx
  exact d_setItem hu I3 g ry rv fun s4 I4 => ⟨σ, H4, I4, q3⟩
end


/-! ### displays -/
theorem dt_empty {P : Program} {w : World} {H : Hp} (h : Heap) (hb : sysModules < h.objs.size) : ObjOk P w H (h.push { cls := .type "dict", data := .dict #[] }) h.objs.size (.dT []) :=
  ⟨Nat.zero_le _, beq_eq_false_iff_ne.mpr (Ne.symm (Nat.ne_of_lt hb)), [], .nil, _, #[], 0, Heap.get?_push_size _ rfl, ⟨rfl, rfl, rfl⟩, rfl, rfl, List.nodup_nil⟩
/-- {}, to be a dict of the kind that is wanted -/
def tDNewK : TE := fun _ H Q => ∀ p, H p = none → Q (.ref p) (upd H p (.dK []))
def tDNewT : TE := fun _ H Q => ∀ p, H p = none → Q (.ref p) (upd H p (.dT []))
section
variable {X : Cx} {pos : Pos}
end

/-- the pairs of a display, from the left -/
def tPairs : List (TE × TE) → St → Hp → (List (V × V) → Hp → Prop) → Prop
  | [], _, H, Q => Q [] H
  | (tk, tv) :: r, σ, H, Q => tk σ H fun x H1 => tv σ H1 fun y H2 => tPairs r σ H2 fun ps H3 => Q ((x, y) :: ps) H3
abbrev VV : List (V × V) → List (Value × Value) → Prop := Paired fun p q => RelV p.1 q.1 ∧ RelV p.2 q.2
def PPs (X : Cx) (pos : Pos) (keys : List (Option Expr)) (values : List Expr) (trs : List (TE × TE)) : Prop :=
  ∀ (pins : List (Addr × Obj)) (s : Shared) (σ : St) (H : Hp) (Q : List (V × V) → Hp → Prop), Inv X pins σ H s → tPairs trs σ H Q →
    wpAny (model X.prog X.w) X.A (evalPairs (pairTrees keys values X.env pos)) (fun vs s' => ∃ ps H', Inv X pins σ H' s' ∧ VV ps vs ∧ Q ps H') X.xe s
theorem pps_nil {X : Cx} {pos : Pos} : PPs X pos [] [] [] := fun pins s σ H Q I h => pairTrees_nil_walk ⟨[], H, I, .nil, h⟩
theorem pps_cons {X : Cx} {pos : Pos} {k v : Expr} {ks : List (Option Expr)} {vs : List Expr} {tk tv : TE} {trs : List (TE × TE)} (hk : PE X k tk) (hv : PE X v tv) (hr : PPs X pos ks vs trs) :
    PPs X pos (some k :: ks) (v :: vs) ((tk, tv) :: trs) := fun pins s σ H Q I h =>
  pairTrees_cons_walk (thn (hk pins s σ H _ I h) fun u s1 ⟨x, H1, I1, rx, q1⟩ => thn (hv pins s1 σ H1 _ I1 q1) fun w2 s2 ⟨y, H2, I2, ry, q2⟩ =>
    thn (hr pins s2 σ H2 _ I2 q2) fun ws s3 ⟨ps, H3, I3, rel, q3⟩ => ⟨(x, y) :: ps, H3, I3, .cons ⟨rx, ry⟩ rel, q3⟩)

def mergeK (kvs more : List (Key × V)) : List (Key × V) := more.foldl (fun acc kv => putK acc kv.1 kv.2) kvs
/-- {k: v, ..} with keys ints and texts; the new dict stands empty while the pairs are made -/
def tDisp (trs : List (TE × TE)) : TE := fun σ H Q => ∀ p, H p = none → tPairs trs σ (upd H p (.dK [])) fun ps H2 => H2 p = some (.dK []) ∧ ∃ kvs : List (Key × V), ps = kvs.map (fun kv => (kV kv.1, kv.2)) ∧ kvs.length ≤ 15 ∧ Q (.ref p) (upd H2 p (.dK (mergeK [] kvs)))
/-! ### methods -/
/-- a method call o.m(e) of a built-in, with one argument: what must be seen of the text -/
structure M1 (X : Cx) (o : Expr) (m : Str) (apos : Pos) (e : Expr) (cpos : Pos) : Prop where
  base : attributeBase o m X.env (eval o X.env) = eval o X.env
  few : ((backTo cpos (starEach [e] X.env)).all (fun x => !x.1) && (backToKw cpos (keywordEach [] X.env)).all (fun x => x.1.isSome)
    && decide (([e] : List Expr).length + ([] : List Keyword).length + (if ([] : List Keyword).isEmpty then 0 else 1) < 30)) = true
  line : (apos.endLine == cpos.line) = true
  trees : backTo cpos (starEach [e] X.env) = [(false, eval e X.env)]
structure M2 (X : Cx) (o : Expr) (m : Str) (apos : Pos) (e f : Expr) (cpos : Pos) : Prop where
  base : attributeBase o m X.env (eval o X.env) = eval o X.env
  few : ((backTo cpos (starEach [e, f] X.env)).all (fun x => !x.1) && (backToKw cpos (keywordEach [] X.env)).all (fun x => x.1.isSome)
    && decide (([e, f] : List Expr).length + ([] : List Keyword).length + (if ([] : List Keyword).isEmpty then 0 else 1) < 30)) = true
  line : (apos.endLine == cpos.line) = true
  trees : backTo cpos (starEach [e, f] X.env) = [(false, eval e X.env), (false, eval f X.env)]

/-- a is a dict, whatever its keys -/
def IsD (H : Hp) (a : Addr) : Prop := (∃ kvs, Rd H a (.dK kvs)) ∨ ∃ kvs, Rd H a (.dT kvs)
theorem isD_at {X : Cx} {pins : List (Addr × Obj)} {σ : St} {H : Hp} {s : Shared} {a : Addr} (I : Inv X pins σ H s) (d : IsD H a) :
    s.TypeIs (.ref a) "dict" ∧ (∀ b, Value.ref a = .ref b → ∃ ob, s.heap.get? b = some ob ∧ ob.dict = none) ∧ (a == sysModules) = false := by
  rcases d with ⟨kvs, e⟩ | ⟨kvs, e⟩
  · obtain ⟨_, hd, vs, _, dd⟩ := dk_rd I.hok e
    refine ⟨dd.typeIs, fun b q => ?_, hd⟩
    cases q
    obtain ⟨ob, _, _, h1, h2, _⟩ := dd
    exact ⟨ob, h1, h2.2.1⟩
  · obtain ⟨_, hd, xs, _, dd⟩ := dt_rd I.hok e
    refine ⟨dd.typeIs, fun b q => ?_, hd⟩
    cases q
    obtain ⟨ob, _, _, h1, h2, _⟩ := dd
    exact ⟨ob, h1, h2.2.1⟩

section
variable {X : Cx} {pins : List (Addr × Obj)} {σ : St} {H : Hp} {s : Shared} {a : Addr} {y d : V} {u r : Value} {o : Option V} {A : Around} {E : Value → Shared → Prop}
/-- d.get(y) -/
theorem d_get1 {Q : Value → Shared → Prop} (hu : A.units + 1 < cLine) (I : Inv X pins σ H s) (g : DGet H a y o) (ry : RelV y u) (h : ∀ w' s', Inv X pins σ H s' → RelV (o.getD .non) w' → Q w' s') :
    wpAny (model X.prog X.w) A (call (.builtin "dict.get") [.ref a, u]) Q E s := by
  rcases g with ⟨kvs, k, e, ey, l⟩ | ⟨kvs, k, b, e, ey, eb, l⟩
  · subst ey
    obtain ⟨z, hd, vs, rel, dd⟩ := dk_rd I.hok e
    refine call_meetsIn PySem.F.slot_dict_get dd.typeIs PySem.F.entry_dict_get (PySem.F.args_dict_get_2 _ _) (meets_dict_get (mixKind X.prog X.w) a (kV_is ry) hd) ⟨_, dd.mapOf, h _ _ (I.tok _) ?_⟩
    rw [l]
    exact (rel.val k).getD rfl
  · subst ey
    cases (show u = Value.ref b from ry)
    obtain ⟨z, hd, xs, rel, dd⟩ := dt_rd I.hok e
    refine call_meetsIn PySem.F.slot_dict_get dd.typeIs PySem.F.entry_dict_get (PySem.F.args_dict_get_2 _ _) (meetsH_dict_get (tupleKind (mixKind X.prog X.w)) a b hd) ⟨tupleKind_room_in1 hu, k, xs, key_of I.hok eb, dd, h _ _ (I.tok _) ?_⟩
    rw [l]
    exact (rel.val k).getD rfl
end

def tDGet1 (td ty : TE) : TE := fun σ H Q => td σ H fun x H1 => ∃ a, x = .ref a ∧ IsD H1 a ∧ ty σ H1 fun y H2 => ∃ o, DGet H2 a y o ∧ Q (o.getD .non) H2
def tDGet2 (td ty tx : TE) : TE := fun σ H Q => td σ H fun x H1 => ∃ a, x = .ref a ∧ IsD H1 a ∧ ty σ H1 fun y H2 => tx σ H2 fun z H3 => ∃ o, DGet H3 a y o ∧ Q (o.getD z) H3
/-- d.pop(k): there; d.pop(k, x): there or not -/
def tDPop1 (td ty : TE) : TE := fun σ H Q => td σ H fun x H1 => ∃ a, x = .ref a ∧ IsD H1 a ∧ ty σ H1 fun y H2 => ∃ kvs k v, H2 a = some (.dK kvs) ∧ y = kV k ∧ valV kvs k = some v ∧ Q v (upd H2 a (.dK (dropK kvs k)))
def tDPop2 (td ty tx : TE) : TE := fun σ H Q => td σ H fun x H1 => ∃ a, x = .ref a ∧ IsD H1 a ∧ ty σ H1 fun y H2 => tx σ H2 fun z H3 => ∃ kvs k, H3 a = some (.dK kvs) ∧ y = kV k ∧
  (∀ v, valV kvs k = some v → Q v (upd H3 a (.dK (dropK kvs k)))) ∧ (valV kvs k = none → Q z H3)
section
variable {X : Cx} {o e f : Expr} {apos cpos : Pos} {td ty tx : TE}
theorem pe_dget1 (hu : X.A.units + 1 < cLine) (ho : PE X o td) (he : PE X e ty) (m : M1 X o "get" apos e cpos) : PE X (.Call (.Attribute o "get" apos) [e] [] cpos) (tDGet1 td ty) := by
  intro pins s σ H Q I h
  refine wpAny_Call_method m.base m.few m.line PySem.F.plainAttrs_dict PySem.F.slot_dict_get PySem.F.type_dict_get (thn (ho pins s σ H _ I h) fun u s1 ⟨x, H1, I1, rx, a, ex, d, q1⟩ => ?_)
  subst ex
  obtain rfl : u = Value.ref a := rx
  obtain ⟨t1, t2, _⟩ := isD_at I1 d
  refine ⟨t1, t2, ?_⟩
  rw [m.trees]
  refine Calls.callWith_builtin rfl (Calls.evalArgs_plain (Calls.spliced_cons (thn (he pins s1 σ H1 _ I1 q1) fun iv s2 ⟨y, H2, I2, ry, ov, g, q2⟩ => Calls.spliced_nil ?_)))
  exact d_get1 hu I2 g ry fun w' s3 I3 rw' => ⟨_, H2, I3, rw', q2⟩
end

/-! ### dict(d): a copy -/
section
variable {X : Cx} {pins : List (Addr × Obj)} {σ : St} {H : Hp} {s : Shared} {a : Addr} {kvs : List (Key × V)} {A : Around} {E : Value → Shared → Prop}
end


section
variable {X : Cx} {pins : List (Addr × Obj)} {σ : St} {H : Hp} {s : Shared} {a : Addr} {y : V} {u : Value} {A : Around} {E : Value → Shared → Prop}
end
end L2
namespace L2
open PySem PySem.Spec PyProof.Rows
section
variable {X : Cx}
end
/-! ### a dict's pairs: keys that differ -/
section
variable {κ : Type} [DecidableEq κ]
end
end L2

set_option Elab.async false
set_option linter.all false
set_option maxRecDepth 100000
set_option maxHeartbeats 4000000
namespace L2
open PySem PySem.Spec PyProof.Rows
/-! ### an untracked list of ours is taken into the heap -/
theorem Inv.adopt {X : Cx} {pins : List (Addr × Obj)} {σ : St} {H : Hp} {s : Shared} {a : Addr} {o : HO} (I : Inv X pins σ H s) (hn : H a = none) (hs : X.s₀.heap.objs.size ≤ a) (hL : a ≠ X.env.locals) (hC : ∀ x c, X.env.cells.lookup x = some c → c ≠ a) (hp : ∀ p ∈ X.pn ++ pins, p.1 ≠ a)
    (new : ObjOk X.prog X.w (upd H a o) s.heap a o) : Inv X pins σ (upd H a o) s := by
  have ne : ∀ b u, X.s₀.heap.get? b = some u → b ≠ a := fun b u e => Nat.ne_of_lt (Nat.lt_of_lt_of_le (Heap.lt_size e) hs)
  refine ⟨I.ok, I.os, I.bare, ⟨I.base.keep, I.base.slot, fun b u e n hx => ?_, I.base.there, fun b xs e => ?_, fun b u xs e => ?_, fun b ps e => ?_⟩, I.loc, I.cell, ?_, fun x c e => ?_, fun p hq => ?_, fun b u e => ?_, I.len⟩
  · rw [upd_ne (ne b u e)]; exact I.base.free b u e n hx
  · have q := I.base.tups b xs e
    rw [upd_ne (ne_of_none q hn)]; exact q
  · have q := I.base.frzs b u xs e
    rw [upd_ne (ne_of_none q hn)]; exact q
  · obtain ⟨m, q⟩ := I.base.tbls b ps e
    exact ⟨m, by rw [upd_ne (ne_of_none q hn)]; exact q⟩
  · rw [upd_ne (Ne.symm hL)]; exact I.free
  · rw [upd_ne (hC x c e)]; exact I.freeC x c e
  · obtain ⟨h1, h2, h3⟩ := I.pin p hq
    exact ⟨h1, by rw [upd_ne (hp p hq)]; exact h2, h3⟩
  · by_cases hb : b = a
    · subst hb; rw [upd_same] at e; cases e; exact new
    · rw [upd_ne hb] at e
      exact (I.hok b u e).stay (fun c v _ q => q) (fun c q => by rw [upd_ne (ne_of_none q hn)]; exact q) fun c xs q => by rw [upd_ne (ne_of_none q hn)]; exact q
/-! ### a comprehension -/
/-- the cells of a closure are the frame's -/
def CellsIn (E : Env) : List (Str × Addr) → Prop
  | [] => True
  | p :: r => E.cells.lookup p.1 = some p.2 ∧ CellsIn E r
theorem CellsIn.get {E : Env} : ∀ {cl : List (Str × Addr)} {x : Str} {c : Addr}, CellsIn E cl → cl.lookup x = some c → E.cells.lookup x = some c := by
  intro cl x c h e
  have hm := PySem.mem_of_lookup e
  clear e
  induction cl with
  | nil => exact nomatch hm
  | cons p r ih =>
    rcases List.mem_cons.mp hm with q | q
    · have := h.1
      rw [← q] at this
      exact this
    · exact ih h.2 q
/-- the names of a comprehension's block: its own (none), the frame's slot i (some i) -/
def CapOk (XE : Env) (sc : Scope) (XN : List Str) : List Str → List (Option Nat) → Prop
  | [], [] => True
  | _ :: n, none :: c => CapOk XE sc XN n c
  | x :: n, some i :: c => (XN[i]? = some x ∧ (XE.kindOf x = some .cell ∨ XE.kindOf x = some .free) ∧ (sc.names.lookup x = some .cell ∨ sc.names.lookup x = some .free)) ∧ CapOk XE sc XN n c
  | _, _ => False
def capV (σ : St) (o : Option Nat) : Option V := match o with
  | none => none
  | some i => (σ[i]?).join
def capSt (cap : List (Option Nat)) (σ : St) : St := cap.map (capV σ)
theorem CapOk.len {XE : Env} {sc : Scope} {XN : List Str} : ∀ {n : List Str} {c : List (Option Nat)}, CapOk XE sc XN n c → c.length = n.length
  | [], [], _ => rfl
  | _ :: _, none :: _, h => congrArg (· + 1) (CapOk.len (n := _) (c := _) h)
  | _ :: _, some _ :: _, h => congrArg (· + 1) (CapOk.len h.2)
  | [], _ :: _, h => (show False from h).elim
  | _ :: _, [], h => (show False from h).elim
theorem CapOk.get {XE : Env} {sc : Scope} {XN : List Str} {σ : St} : ∀ {n : List Str} {c : List (Option Nat)} {j : Nat} {x : Str} {v : V}, CapOk XE sc XN n c → n[j]? = some x → (capSt c σ)[j]? = some (some v) →
    ∃ i : Nat, XN[i]? = some x ∧ σ[i]? = some (some v) ∧ (XE.kindOf x = some .cell ∨ XE.kindOf x = some .free) ∧ (sc.names.lookup x = some .cell ∨ sc.names.lookup x = some .free)
  | [], [], _, _, _, _, h, _ => by simp at h
  | y :: n, none :: c, 0, x, v, _, _, e => by simp [capSt, capV] at e
  | y :: n, none :: c, j + 1, x, v, h, h1, e => CapOk.get (n := n) (c := c) (j := j) h (by simpa using h1) (by simpa [capSt] using e)
  | y :: n, some i :: c, 0, x, v, h, h1, e => by
    simp at h1; subst h1
    refine ⟨i, h.1.1, ?_, h.1.2⟩
    simp only [capSt, capV, List.map_cons, List.getElem?_cons_zero] at e
    cases q : σ[i]? with
    | none => rw [q] at e; simp at e
    | some w => rw [q] at e; simp at e; rw [e]
  | y :: n, some i :: c, j + 1, x, v, h, h1, e => CapOk.get (n := n) (c := c) (j := j) h.2 (by simpa using h1) (by simpa [capSt] using e)
  | [], _ :: _, _, _, _, h, _, _ => (show False from h).elim
  | _ :: _, [], _, _, _, h, _, _ => (show False from h).elim
/-- the context of a comprehension's block -/
def cxComp (X : Cx) (scope : Scope) (cl : List (Str × Addr)) (NY : List Str) (fp : List Addr) (s : Shared) (H : Hp) (C : Addr) : Cx where
  prog := X.prog
  w := X.w
  K := X.K
  mg := X.mg
  base := X.base
  A := X.A
  N := NY
  s₀ := s
  H₀ := H
  env := compEnvC scope cl C X.env
  outer := X.stack
  stack := X.stack
  ex := fp
  fn := fun _ => false
  calm := X.calm
  pn := []
  xe := fun _ _ => False
def PIfs (X : Cx) (ifs : List Expr) (t : TT) : Prop :=
  ∀ (pins : List (Addr × Obj)) (s : Shared) (σ : St) (H : Hp) (Q : Bool → Hp → Prop), Inv X pins σ H s → t σ H Q →
    wpAny (model X.prog X.w) X.A (forIn ifs true fun c r => if r = true then do let ok ← isTrue c X.env (eval c X.env); pure (ForInStep.yield ok) else pure (ForInStep.yield r)) (TP X pins σ Q) X.xe s
theorem pifs_nil {X : Cx} : PIfs X [] (fun _ H Q => Q true H) := fun _ _ _ H _ I h => wpAny_tests_nil ⟨H, I, h⟩
theorem pifs_one {X : Cx} {c : Expr} {t : TT} (h : PT X c t) : PIfs X [c] t := fun pins s σ H Q I q => wpAny_tests_one (h pins s σ H Q I q)
theorem compLoopG {prog : Program} {w : World} {A : Around} {R : Result → Shared → Prop} {s : Shared} {elt target iter : Expr} {ifs : List Expr} {scope : Scope} {pos : Pos} {it acc : Value} {env : Env} (J : Nat → Shared → Prop)
    (turn : ∀ n s, J n s → wpAny (model prog w) A (pyNext it) (fun r s₁ => match r with
      | none => R (.ok .next) s₁
      | some v => wpAny (model prog w) A (letOwnedTupleGo target it v) (fun _ s₁' => wpAny (model prog w) A (assign target env v) (fun _ s₂ =>
          wpAny (model prog w) A (forIn ifs true fun c r => if r = true then do let ok ← isTrue c env (eval c env); pure (ForInStep.yield ok) else pure (ForInStep.yield r)) (fun ok s₃ =>
            if ok = true then wpAny (model prog w) A (eval elt env) (fun x s₄ =>
              wpAny (model prog w) A (call (.builtin "list.append") [acc, x]) (fun _ s₅ => ∃ m, m < n ∧ J m s₅) (fun _ _ => False) s₄) (fun _ _ => False) s₃
            else ∃ m, m < n ∧ J m s₃) (fun _ _ => False) s₂) (fun _ _ => False) s₁') (fun _ _ => False) s₁) (fun _ _ => False) s)
    (n : Nat) (h : J n s) :
    codeAny (model prog w) A (.compLoop (.ListComp elt [⟨target, iter, ifs, 0⟩] scope pos) 0 it acc env) R s := by
  refine codeAny_loop rfl J (fun n s hI => ?_) n h
  show wpAny _ A ((compTurn (.ListComp elt [⟨target, iter, ifs, 0⟩] scope pos) 0 it acc env).onRaise (fun x => do noteFrame x env; theTreesLotGoes x)) _ _ s
  refine wpAny_noted ?_
  rw [compTurn_list]
  refine wpAny_bind (wpAny_standAt (wpAny_bind (wpAny_mono (turn n s hI) (fun r s₁ h₁ => ?_) fun _ _ h' => h'.elim)))
  cases r with
  | none => exact wpAny_pure h₁
  | some v =>
    refine wpAny_bind (wpAny_mono h₁ (fun _ s₁' h₁' => ?_) fun _ _ h' => h'.elim)
    refine wpAny_bind (wpAny_mono h₁' (fun _ s₂ h₂ => wpAny_bind (wpAny_mono h₂ (fun ok s₃ h₃ => ?_) fun _ _ h' => h'.elim)) fun _ _ h' => h'.elim)
    cases ok with
    | false => exact wpAny_pure ⟨rfl, h₃⟩
    | true =>
      exact wpAny_bind (wpAny_bind (wpAny_mono h₃ (fun x s₄ h₄ => wpAny_bind (wpAny_mono h₄ (fun _ s₅ h₅ => wpAny_pure (wpAny_pure ⟨rfl, h₅⟩)) fun _ _ h' => h'.elim)) fun _ _ h' => h'.elim))
/-- the reading: W by the turn, a measure, the items so far -/
abbrev LcIn (cap : List (Option Nat)) (g : TG) (tt : TT) (te : TE) (σ : St) (Q : VK) (J : It) (H1 : Hp) : Prop := ∃ W : Nat → Nat → List V → Hp → Prop, (∃ m, W 0 m [] H1) ∧ ∀ i m ys H, W i m ys H →
  (J.stop i H ∧ ∀ p, H p = none → Q (.ref p) (upd H p (.lst ys))) ∨
  (J.go i H ∧ ys.length < sizeLine ∧ ∀ x H', J.yld i H x H' → g x (capSt cap σ) H' fun σ2 H2 => tt σ2 H2 fun b H3 => if b = true then te σ2 H3 fun v H4 => ∃ m', m' < m ∧ W (i + 1) m' (ys ++ [v]) H4 else ∃ m', m' < m ∧ W (i + 1) m' ys H3)
def tLc (cap : List (Option Nat)) (wi : TI) (g : TG) (tt : TT) (te : TE) : TE := fun σ H Q => wi σ H (LcIn cap g tt te σ Q)
section
variable {X : Cx}
theorem pe_lc {elt tg iter : Expr} {ifs : List Expr} {scope : Scope} {pos : Pos} {cl : List (Str × Addr)} {NY : List Str} {cap : List (Option Nat)} {wi : TI} {g : TG} {tt : TT} {te : TE} (hc : X.calm = true) (hi : PI X tg iter wi)
    (hclos : closureFor scope X.env = pure cl) (hci : CellsIn X.env cl) (hcap : CapOk X.env (relabel scope X.env) X.N NY cap)
    (hb : ∀ fp s H C, PG (cxComp X scope cl NY fp s H C) tg g ∧ PIfs (cxComp X scope cl NY fp s H C) ifs tt ∧ PE (cxComp X scope cl NY fp s H C) elt te)
    (hkind : scope.kind = .function := by rfl) (hnc : (scope.names.all fun y => y.2 != .cell) = true := by rfl)
    (hnames : (scope.names.all fun y => y.2 != .local || scope.names.lookup y.1 == some .local) = true := by rfl)
    (hhas : ((relabel scope X.env).names.all fun p => (p.2 != .cell && p.2 != .free) || (cl.lookup p.1).isSome) = true := by rfl)
    (hs : ∀ x, foldedSetIterable iter X.env x = pure x := by intro _; rfl) :
    PE X (.ListComp elt [⟨tg, iter, ifs, 0⟩] scope pos) (tLc cap wi g tt te) := by
  have hnc' : ∀ y ∈ scope.names, y.2 ≠ .cell := fun y hy => by
    have q := List.all_eq_true.mp hnc y hy
    simpa using q
  have hnames' : ∀ y ∈ scope.names, y.2 = .local → scope.names.lookup y.1 = some .local := fun y hy e => by
    have q := List.all_eq_true.mp hnames y hy
    rw [e] at q
    simpa using q
  intro pins s σ H Q I h
  rw [eval_ListComp]
  refine wpAny_comprehension_free (use := none) rfl hs hclos hkind hnames' (wpAny_mono (hi pins s σ H _ I h) (fun v s1 h1 => wpAny_mono h1 (fun itv s2 h2 => ?_) fun _ _ e => e) fun _ _ e => e)
  obtain ⟨it, fp, tn, J, H2, e, I2, T, st2, f2, W, ⟨m0, w0⟩, turn⟩ := h2
  subst e
  refine wpAny_newObj_type (wpAny_newFunctionEnv hnc' (by intro y hy; simp at hy) (fun h₁ hns₁ hsb₁ => ?_) hkind)
  dsimp only at hns₁ hsb₁ ⊢
  generalize hH2 : s2.heap.push { cls := .type "list", dict := none, data := .seq ([] : List Value).toArray } = G2 at hns₁ hsb₁ ⊢
  have hC : G2.objs.size = s2.heap.objs.size + 1 := by rw [← hH2, Heap.size_push]
  have hDC : s2.heap.objs.size ≠ G2.objs.size := by rw [hC]; exact Nat.ne_of_lt (Nat.lt_succ_self _)
  have hDlt : s2.heap.objs.size ≤ G2.objs.size := by rw [hC]; exact Nat.le_succ _
  have below : ∀ b, b < s2.heap.objs.size → b ≠ G2.objs.size ∧ b ≠ s2.heap.objs.size := fun b hb => ⟨by rw [hC]; exact Nat.ne_of_lt (Nat.lt_succ_of_lt hb), Nat.ne_of_lt hb⟩
  have old : ∀ b o, s2.heap.get? b = some o → h₁.get? b = some o := fun b o e => hsb₁.extBut b o (below b (Heap.lt_size e)).1 (Heap.get?_push_of_some _ (hH2 ▸ Heap.get?_push_of_some _ e))
  have hacc : h₁.get? s2.heap.objs.size = some { cls := .type "list", data := .seq ([] : List Value).toArray 0 } := hsb₁.extBut _ _ hDC (Heap.get?_push_of_some _ (hH2 ▸ Heap.get?_push_size _ rfl))
  have fpl : ∀ b ∈ fp, b < s2.heap.objs.size := fun b hb => by
    obtain ⟨o, e, _⟩ := T.obj _ _ st2 b hb
    exact Heap.lt_size e
  have freshD : H2 s2.heap.objs.size = none := I2.hok.fresh (Nat.le_refl _)
  have freshC : H2 G2.objs.size = none := I2.hok.fresh hDlt
  have cellLt : ∀ x c, X.env.cells.lookup x = some c → c < s2.heap.objs.size := fun x c e => by
    obtain ⟨v, q⟩ := I2.cell x c e
    exact q.lt
  have hclX : ∀ x c, cl.lookup x = some c → X.env.cells.lookup x = some c := fun x c e => hci.get e
  obtain ⟨hbg, hbt, hbe⟩ := hb fp s2 H2 G2.objs.size
  -- the block's context is sound
  have okY : (cxComp X scope cl NY fp s2 H2 G2.objs.size).Ok := by
    refine ⟨I2.ok.mod, hkind, I2.ok.glob, I2.ok.blt, hDlt, fun x y c e1 e2 => I2.ok.inj x y c (hclX x c e1) (hclX y c e2), fun x hx => ?_, fun x c hf _ => ?_, I2.ok.hd, I2.ok.frames, .inl rfl, fun b hb => ⟨(below b (fpl b hb)).1, fun x c e z => ?_⟩, I2.bs,
      Nat.le_trans I2.ok.bsz I2.sz, fun b o e hb => ?_, fun b hb hz => ?_, I2.stack, I2.stkFree⟩
    · have hx' : (relabel scope X.env).names.lookup x = some .cell ∨ (relabel scope X.env).names.lookup x = some .free := hx
      have key : ∀ k, (relabel scope X.env).names.lookup x = some k → (k = .cell ∨ k = .free) → ∃ c, cl.lookup x = some c := fun k e hk => by
        have q := List.all_eq_true.mp hhas (x, k) (PySem.mem_of_lookup e)
        have q' : (cl.lookup x).isSome = true := by
          rcases hk with rfl | rfl <;> simpa using q
        exact Option.isSome_iff_exists.mp q'
      rcases hx' with e | e
      · exact key _ e (.inl rfl)
      · exact key _ e (.inr rfl)
    · exact absurd (show false = true from hf) Bool.false_ne_true
    · exact (f2 b hb).2.2.2.2.1 x c (hclX x c e) z
    · rcases (f2 b hb).2.2.2.1 with z | z
      · exact I2.ok.noex b o e z
      · exact absurd (Nat.lt_of_lt_of_le (Heap.lt_size (I2.ok.bs b o e).1) z) (Nat.lt_irrefl _)
    · rcases List.mem_cons.mp (I2.stkSub b hz) with z | z
      · exact (f2 b hb).2.1 z
      · exact (f2 b hb).2.2.1 z
  have fpYs : ∀ {H' : Hp} {n : Nat} {its : List Value}, (∀ b ∈ fp, H' b = none) → ∀ b ∈ fp, FpOk (cxComp X scope cl NY fp s2 H2 G2.objs.size) [(s2.heap.objs.size, { cls := .type "list", data := .seq its.toArray n })] H' b := fun {H' n its} hn b hb => by
    refine ⟨hn b hb, (below b (fpl b hb)).1, fun hz => ?_, .inl hb, fun x c e => (f2 b hb).2.2.2.2.1 x c (hclX x c e), fun p hp => ?_⟩
    · rcases List.mem_cons.mp (I2.stkSub b hz) with z | z
      · exact (f2 b hb).2.1 z
      · exact (f2 b hb).2.2.1 z
    · have e : p = (s2.heap.objs.size, { cls := .type "list", data := .seq its.toArray n }) := by simpa [cxComp] using hp
      rw [e]
      exact Ne.symm (below b (fpl b hb)).2
  have nostk : ∀ b, s2.heap.objs.size ≤ b → b ∉ frs X.stack := fun b hb hz => by
    rcases List.mem_cons.mp (I2.stkSub b hz) with z | z
    · have := I2.lt; rw [← z] at this; exact absurd (Nat.lt_of_lt_of_le this hb) (Nat.lt_irrefl _)
    · exact I2.nofs hb z
  have IY0 : Inv (cxComp X scope cl NY fp s2 H2 G2.objs.size) [(s2.heap.objs.size, { cls := .type "list", data := .seq ([] : List Value).toArray 0 })] (capSt cap σ) H2 { s2 with heap := h₁, toks := s2.toks + ([] : List (Str × Value)).length } := by
    refine ⟨okY, rfl, I2.bare, Un.kept old, ⟨_, hns₁, fun j x v e1 e2 e3 => ?_⟩, fun x c e => ?_, freshC, fun x c e => I2.freeC x c (hclX x c e), fun p hp => ?_, I2.hok.kept old, ?_⟩
    · obtain ⟨i, h1, h2, h3, h4⟩ := CapOk.get (σ := σ) hcap e1 e2
      obtain ⟨m, hn, hl⟩ := I2.loc
      have vis : Vis X.env.scope x := by rcases h3 with z | z; exact .inr (.inl z); exact .inr (.inr z)
      obtain ⟨u, r, l⟩ := hl i x v h1 h2 vis
      refine ⟨u, r, .inr ⟨h4, ?_⟩⟩
      rcases l with ⟨k, _⟩ | ⟨_, c, e, z⟩
      · rcases h3 with z | z <;> (rw [k] at z; cases z)
      · obtain ⟨c', e'⟩ := okY.has x h4
        have e' : cl.lookup x = some c' := e'
        have e'' := hclX x c' e'
        rw [e] at e''
        cases e''
        obtain ⟨o, ho, hd⟩ := z
        exact ⟨c, e', o, old _ _ ho, hd⟩
    · obtain ⟨v, o, ho, hd⟩ := I2.cell x c (hclX x c e)
      exact ⟨v, o, old _ _ ho, hd⟩
    · have e : p = (s2.heap.objs.size, { cls := .type "list", data := .seq ([] : List Value).toArray 0 }) := by simpa [cxComp] using hp
      rw [e]
      exact ⟨hacc, freshD, hDC, nostk _ (Nat.le_refl _), fun v z => by cases z⟩
    · show (capSt cap σ).length = NY.length
      unfold capSt
      rw [List.length_map]
      exact hcap.len
  have hcY : (cxComp X scope cl NY fp s2 H2 G2.objs.size).calm = true := hc
  have stW : tn 0 h₁ := T.keep _ _ _ st2 fun b _ o e => old b o e
  -- the loop
  have loop : ∀ s₃ : Shared, s₃ = { s2 with heap := h₁, toks := s2.toks + ([] : List (Str × Value)).length } →
      codeAny (model X.prog X.w) X.A (.compLoop (.ListComp elt [⟨tg, iter, ifs, 0⟩] scope pos) 0 (.ref it) (.ref s2.heap.objs.size) (compEnvC scope cl G2.objs.size X.env))
        (compPost (model X.prog X.w) X.A X.xe none (EP X pins σ Q) (.ref s2.heap.objs.size) G2.objs.size) s₃ := by
    rintro s₃ rfl
    refine compLoopG (fun n s' => ∃ i ys its k H', Inv (cxComp X scope cl NY fp s2 H2 G2.objs.size) [(s2.heap.objs.size, { cls := .type "list", data := .seq its.toArray k })] (capSt cap σ) H' s' ∧ Vals ys its ∧ ys.length ≤ sizeLine ∧ tn i s'.heap ∧ (∀ b ∈ fp, H' b = none) ∧ W i n ys H') ?_ m0
      ⟨0, [], [], 0, H2, IY0, .nil, Nat.zero_le _, stW, fun b hb => (f2 b hb).1, w0⟩
    rintro n s3 ⟨i, ys, its, k, H3, I3, rv, hz, st3, fr3, w3⟩
    rcases turn i n ys H3 w3 with ⟨stop, qn⟩ | ⟨go, hlt, step⟩
    · refine wpAny_mono (T.done (cxComp X scope cl NY fp s2 H2 G2.objs.size) rfl rfl rfl hcY i _ s3 _ H3 (fun _ _ => False) I3 (fpYs fr3) st3 stop) (fun r s4 ⟨hr, I4⟩ => ?_) fun _ _ z => z
      subst hr
      obtain ⟨m, hnC, _⟩ := id I4.loc
      have hnC : s4.heap.Ns G2.objs.size m := hnC
      refine ⟨m, hnC, fun h' hsb => ?_⟩
      have pD := (I4.pin (s2.heap.objs.size, { cls := .type "list", data := .seq its.toArray k }) (by simp [cxComp]))
      have un : Un (frs X.stack) fp H2 H3 s2.heap s4.heap := I4.base
      have I5 : Inv X pins σ H3 s4 := I2.call' (ch := fp) I4.os un I4.hok I4.bare fun b hb => ⟨(f2 b hb).2.2.2.1, (f2 b hb).2.1, (f2 b hb).2.2.2.2.1, (f2 b hb).2.2.2.2.2⟩
      have cC : H3 G2.objs.size = none := I4.free
      have szX : X.s₀.heap.objs.size ≤ s2.heap.objs.size := I2.sz
      have I6 : Inv X pins σ H3 { s4 with heap := h' } := I5.turned (t' := s4.toks) (it := G2.objs.size) (fun b o hb e => hsb.extBut b o hb e) cC (Nat.ne_of_gt (Nat.lt_of_lt_of_le I2.lt hDlt)) (.inr (Nat.le_trans szX hDlt))
        (fun x c e z => absurd (cellLt x c e) (by rw [z]; exact Nat.not_lt.mpr hDlt)) (fun p hp z => absurd (Heap.lt_size (I2.pin p hp).1) (by rw [z]; exact Nat.not_lt.mpr hDlt))
      have I7 : Inv X pins σ (upd H3 s2.heap.objs.size (.lst ys)) { s4 with heap := h' } := I6.adopt pD.2.1 szX (Nat.ne_of_gt I2.lt) (fun x c e => Nat.ne_of_lt (cellLt x c e)) (fun p hp => Nat.ne_of_lt (Heap.lt_size (I2.pin p hp).1))
        ⟨hz, its, k, rv, hsb.extBut _ _ hDC pD.1⟩
      exact ⟨.ref s2.heap.objs.size, _, I7, rfl, qn _ pD.2.1⟩
    · refine wpAny_mono (T.item (cxComp X scope cl NY fp s2 H2 G2.objs.size) rfl rfl rfl hcY i _ s3 _ H3 (fun _ _ => False) I3 (fpYs fr3) st3 go) (fun r s4 ⟨u, hr, h4⟩ => ?_) fun _ _ z => z
      subst hr
      refine wpAny_mono h4 (fun _ s5 ⟨x, H5, I5, r5, y5, st5, fr5⟩ => ?_) fun _ _ z => z
      have I5' := I5.pinned (fpYs fr5) (T.obj _ _ st5)
      refine wpAny_mono (hbg _ s5 _ H5 x u _ I5' r5 (step x H5 y5)) (fun _ s6 ⟨σ6, H6, I6, q6⟩ => ?_) fun _ _ z => z
      refine wpAny_mono (hbt _ s6 σ6 H6 _ I6 q6) (fun ok s7 ⟨H7, I7, q7⟩ => ?_) fun _ _ z => z
      have lenY : ∀ {σ' : St} {pn} {H'} {s'}, Inv (cxComp X scope cl NY fp s2 H2 G2.objs.size) pn σ' H' s' → (capSt cap σ).length = σ'.length := fun {σ' pn H' s'} Z => IY0.len.trans Z.len.symm
      have captured : ∀ {σ' : St} {pn} {H'} {s'}, Inv (cxComp X scope cl NY fp s2 H2 G2.objs.size) pn σ' H' s' → Inv (cxComp X scope cl NY fp s2 H2 G2.objs.size) pn (capSt cap σ) H' s' := fun {σ' pn H' s'} Z => by
        refine ⟨Z.ok, Z.os, Z.bare, Z.base, ?_, Z.cell, Z.free, Z.freeC, Z.pin, Z.hok, IY0.len⟩
        obtain ⟨m, hn, _⟩ := Z.loc
        refine ⟨m, hn, fun j x v e1 e2 e3 => ?_⟩
        obtain ⟨i', h1, h2, h3, h4⟩ := CapOk.get (σ := σ) hcap e1 e2
        obtain ⟨m', hn', hl⟩ := I2.loc
        have vis : Vis X.env.scope x := by rcases h3 with z | z; exact .inr (.inl z); exact .inr (.inr z)
        obtain ⟨u, r, l⟩ := hl i' x v h1 h2 vis
        refine ⟨u, r, .inr ⟨h4, ?_⟩⟩
        rcases l with ⟨kk, _⟩ | ⟨_, c, e, z⟩
        · rcases h3 with z | z <;> (rw [kk] at z; cases z)
        · obtain ⟨c', e'⟩ := okY.has x h4
          have e' : cl.lookup x = some c' := e'
          have e'' := hclX x c' e'
          rw [e] at e''
          cases e''
          obtain ⟨o, ho, hd⟩ := z
          have nfp : c ∉ fp := fun hz => (f2 c hz).2.2.2.2.1 x c e rfl
          obtain ⟨sl, q⟩ := Z.base.any (show s2.heap.get? c = some o from ho) (I2.freeC x c e) nfp
          exact ⟨c, e', _, q, hd⟩
      have again : ∀ {ys' : List V} {its' : List Value} {k' : Nat} {σ' : St} {H' : Hp} {s' : Shared}, Inv (cxComp X scope cl NY fp s2 H2 G2.objs.size) ([(s2.heap.objs.size, { cls := .type "list", data := .seq its'.toArray k' })] ++ pinsAt fp s5.heap) σ' H' s' → Vals ys' its' → ys'.length ≤ sizeLine →
          (∃ m', m' < n ∧ W (i + 1) m' ys' H') → ∃ m, m < n ∧ ∃ i ys its k H', Inv (cxComp X scope cl NY fp s2 H2 G2.objs.size) [(s2.heap.objs.size, { cls := .type "list", data := .seq its.toArray k })] (capSt cap σ) H' s' ∧ Vals ys its ∧ ys.length ≤ sizeLine ∧ tn i s'.heap ∧ (∀ b ∈ fp, H' b = none) ∧ W i m ys H' := fun {ys' its' k' σ' H' s'} Z rv' hz' hw => by
        obtain ⟨m', hm, w'⟩ := hw
        refine ⟨m', hm, i + 1, ys', its', k', H', captured Z.unpinned, rv', hz', T.keep _ _ _ st5 fun b hb o e => (Z.pin (b, o) (List.mem_append_right _ (List.mem_append_right _ (mem_pinsAt hb e)))).1, fun b hb => ?_, w'⟩
        obtain ⟨o, e, d⟩ := T.obj _ _ st5 b hb
        exact (Z.pin (b, o) (List.mem_append_right _ (List.mem_append_right _ (mem_pinsAt hb e)))).2.1
      cases ok with
      | false =>
        rw [if_neg Bool.false_ne_true] at q7 ⊢
        exact again I7 rv hz q7
      | true =>
        rw [if_pos rfl] at q7 ⊢
        refine wpAny_mono (hbe _ s7 σ6 H7 _ I7 q7) (fun xv s8 ⟨v, H8, I8, r8, q8⟩ => ?_) fun _ _ z => z
        have pD := I8.pin (s2.heap.objs.size, { cls := .type "list", data := .seq its.toArray k }) (by simp [cxComp])
        have hlen := rv.length
        refine append_at pD.1 (fun h9 hs9 hD9 => ?_) (by rw [List.size_toArray]; omega)
        have I9 : Inv (cxComp X scope cl NY fp s2 H2 G2.objs.size) (pinsAt fp s5.heap) σ6 H8 s8 := I8.pins_of fun p hp => I8.pin p (List.mem_append_right _ (List.mem_append_right _ hp))
        have I10 : Inv (cxComp X scope cl NY fp s2 H2 G2.objs.size) (pinsAt fp s5.heap) σ6 H8 { s8 with heap := h9 } := I9.turned (t' := s8.toks) (it := s2.heap.objs.size) (fun b o hb e => hs9.extBut b o hb e) pD.2.1 hDC (.inr (Nat.le_refl _))
          (fun x c e => Nat.ne_of_lt (cellLt x c (hclX x c e))) fun p hp => by
            have hp' : p ∈ pinsAt fp s5.heap := by simpa [cxComp] using hp
            exact Ne.symm (Ne.symm (below _ (fpl _ (of_pinsAt hp').1)).2)
        have I11 : Inv (cxComp X scope cl NY fp s2 H2 G2.objs.size) ([(s2.heap.objs.size, { cls := .type "list", data := .seq (its ++ [xv]).toArray (k + 1) })] ++ pinsAt fp s5.heap) σ6 H8 { s8 with heap := h9 } := I10.pins_of fun p hp => by
          rcases List.mem_append.mp hp with z | z
          · have e : p = (s2.heap.objs.size, { cls := .type "list", data := .seq (its ++ [xv]).toArray (k + 1) }) := by simpa using z
            rw [e]
            refine ⟨?_, pD.2.1, hDC, nostk _ (Nat.le_refl _), fun v z => by cases z⟩
            rw [List.push_toArray] at hD9
            exact hD9
          · exact I10.pin p (List.mem_append_right _ z)
        exact again I11 (rv.append (.cons r8 .nil)) (by rw [List.length_append, List.length_singleton]; exact hlt) q8
  exact codeAny_compStart_list (loop _ rfl) (T.self _ 0 _ _ _ stW (loop _ rfl))
end
end L2

set_option Elab.async false
set_option linter.all false
set_option maxRecDepth 100000
set_option maxHeartbeats 4000000
namespace L2
open PySem PySem.Spec PyProof.Rows
section
variable {X : Cx}
/-! ### isinstance(x, T), T a built-in type -/
theorem call_isinst {n : String} : CallR X (.builtin "isinstance") (fun xs H Q => ∃ x t b, xs = [x, .ty n] ∧ TyOf X.K H x t ∧ PySem.W.kitOne X.K t (.type n) = some b ∧ Q (.bl b) H) := by
  intro pins s σ H xs us Q I r h
  obtain ⟨x, t, b, rfl, ty, e, q⟩ := h
  obtain ⟨u, w', rfl, rx, rt⟩ := vals2 r
  cases rt
  exact isinst_ok I rx ty e fun tk => ⟨.bl b, H, I.tok _, rfl, q⟩
/-! ### // by a positive divisor below 2 ^ 64 -/
theorem op_fdivB : OpR X (binaryOp .FloorDiv) (rI (fun _ j => 0 < j ∧ j < 2 ^ 64) fun i j => .int (i / j)) := opI fun i j _ _ _ _ _ hc q => by
  have h1 : (0 : Int) < j := hc.1
  have h2 : j < 2 ^ 64 := hc.2
  refine floordiv_int (by omega) (by rw [Int.fdiv_eq_ediv_of_nonneg i (by omega)]; exact q) (.inl (PyProof.noPylong_of_log2 ?_))
  have h3 : j.natAbs < 2 ^ 64 := by omega
  have h4 : j.natAbs ≠ 0 := by omega
  have h5 : j.natAbs.log2 < 64 := (Nat.log2_lt h4).mpr h3
  omega
/-! ### a def that is called -/
def Cal (P : Program) (w : World) (K : PySem.W.Frag) (mg : Str → Option Value) (base : Heap) (x : Str) (k : Nat) (ps : List Str) (sp : Sp) : Prop :=
  ∃ f fd, FnOk P w K mg base CX0 k f fd ps sp ∧ Binds K fd ps [] ∧ PySem.W.keepIn K (.ref f) = true ∧ mg x = some (.ref f)
theorem pe_cal {x : Str} {k k' : Nat} {ps : List Str} {sp : Sp} {e : Expr} {es : List Expr} {t : TA} {p pos : Pos} (C : Cal X.prog X.w X.K X.mg X.base x k ps sp) (hr : Room k' X.A) (hk : k ≤ k') (hg : Gl X x) (ha : PA X (e :: es) t)
    (hdb : (x == ("__debug__" : Str)) = false := by decide) (he : starEach (e :: es) X.env = (false, eval e X.env) :: starEach es X.env := by rfl) (hpl : (backTo pos (starEach es X.env)).any (·.1) = false := by rfl) :
    PE X (.Call (.Name x p) (e :: es) [] pos) (tCall sp [] E0 t) := by
  obtain ⟨f, fd, F, b, kp, m⟩ := C
  exact pe_call F (hr.mono hk) hg m kp b .nil pass0 ha hdb he hpl
end
/-! ### heaps that grew; one list among them may have changed -/
theorem Same.new {H : Hp} {p : Addr} (h : H p = none) (o : HO) : Same H (upd H p o) := fun b u q => by rw [upd_ne (ne_of_none q h)]; exact q
/-- all but w is as it was -/
def But (w : Addr) (H H' : Hp) : Prop := ∀ b o, b ≠ w → H b = some o → H' b = some o
theorem But.refl {w : Addr} {H : Hp} : But w H H := fun _ _ _ h => h
theorem But.trans {w : Addr} {H H1 H2 : Hp} (a : But w H H1) (b : But w H1 H2) : But w H H2 := fun c o n h => b c o n (a c o n h)
theorem But.of {w : Addr} {H H' : Hp} (a : Same H H') : But w H H' := fun c o _ h => a c o h
theorem But.new {w : Addr} {H : Hp} {p : Addr} (h : H p = none) (o : HO) : But w H (upd H p o) := But.of (Same.new h o)
theorem But.put {w : Addr} {H : Hp} {o : HO} : But w H (upd H w o) := fun b u n q => by rw [upd_ne n]; exact q
end L2

set_option Elab.async false
set_option linter.all false
set_option maxRecDepth 100000
set_option maxHeartbeats 4000000
namespace Srt
open PySem PySem.W PyProof.Rows
/-! ### the sort's questions, answered by keys that differ -/
def run {α : Type} (lt : Nat → Nat → Bool) : KasT α → α
  | .ret a => a
  | .ask i j k => run lt (k (lt i j))
theorem run_bind {α β : Type} (lt : Nat → Nat → Bool) (f : α → KasT β) : ∀ t : KasT α, run lt (t.bind f) = run lt (f (run lt t))
  | .ret _ => rfl
  | .ask i j k => run_bind lt f (k (lt i j))
section
variable (key : Nat → Int)
abbrev lt : Nat → Nat → Bool := fun i j => decide (key i < key j)
/-- the key at a place -/
def kp (p : Array Nat) (x : Nat) : Int := key (p.getD x 0)
/-- rising up to m -/
def Up (p : Array Nat) (m : Nat) : Prop := ∀ i j, i < j → j < m → kp key p i < kp key p j
def Down (p : Array Nat) (m : Nat) : Prop := ∀ i j, i < j → j < m → kp key p j < kp key p i
/-- no two places below n bear one key -/
def Apart (p : Array Nat) (n : Nat) : Prop := ∀ i j, i < n → j < n → kp key p i = kp key p j → i = j
variable {key}
theorem asc_ok (p : Array Nat) : ∀ (f n : Nat), 1 ≤ n → Apart key p (n + f) → Up key p n →
    n ≤ run (lt key) (kas_asc p f n) ∧ run (lt key) (kas_asc p f n) ≤ n + f ∧ Up key p (run (lt key) (kas_asc p f n)) ∧ (run (lt key) (kas_asc p f n) < n + f → kp key p (run (lt key) (kas_asc p f n)) < kp key p (run (lt key) (kas_asc p f n) - 1))
  | 0, n, h1, ap, up => ⟨Nat.le_refl _, Nat.le_refl _, up, fun h => absurd h (Nat.lt_irrefl _)⟩
  | f + 1, n, h1, ap, up => by
    show _ ≤ run (lt key) (if lt key (p.getD n 0) (p.getD (n - 1) 0) = true then KasT.ret n else kas_asc p f (n + 1)) ∧ _
    by_cases c : lt key (p.getD n 0) (p.getD (n - 1) 0) = true
    · have e : run (lt key) (kas_asc p (f + 1) n) = n := by
        show run (lt key) (if lt key (p.getD n 0) (p.getD (n - 1) 0) = true then KasT.ret n else kas_asc p f (n + 1)) = n
        rw [if_pos c]; rfl
      rw [if_pos c]
      show n ≤ n ∧ run (lt key) (kas_asc p (f + 1) n) ≤ _ ∧ Up key p (run (lt key) (kas_asc p (f + 1) n)) ∧ _
      rw [e]
      exact ⟨Nat.le_refl _, by omega, up, fun _ => of_decide_eq_true c⟩
    · have e : run (lt key) (kas_asc p (f + 1) n) = run (lt key) (kas_asc p f (n + 1)) := by
        show run (lt key) (if lt key (p.getD n 0) (p.getD (n - 1) 0) = true then KasT.ret n else kas_asc p f (n + 1)) = _
        rw [if_neg c]
      have c' : ¬ kp key p n < kp key p (n - 1) := fun z => c (decide_eq_true z)
      have ne : kp key p n ≠ kp key p (n - 1) := fun z => by
        have := ap n (n - 1) (by omega) (by omega) z
        omega
      have up' : Up key p (n + 1) := fun i j hij hj => by
        by_cases hjn : j < n
        · exact up i j hij hjn
        · have : j = n := by omega
          subst this
          by_cases hi : i = j - 1
          · subst hi; omega
          · have := up i (j - 1) (by omega) (by omega)
            omega
      have ih := asc_ok p f (n + 1) (by omega) (by rw [show n + 1 + f = n + (f + 1) by omega]; exact ap) up'
      rw [if_neg c]
      show n ≤ _ ∧ run (lt key) (kas_asc p (f + 1) n) ≤ _ ∧ Up key p (run (lt key) (kas_asc p (f + 1) n)) ∧ _
      rw [e]
      refine ⟨by omega, by omega, ih.2.2.1, fun h => ih.2.2.2 (by omega)⟩
theorem desc_ok (p : Array Nat) : ∀ (f n : Nat), 2 ≤ n → Apart key p (n + f) → Down key p n →
    ∃ m, run (lt key) (kas_desc f p n 0) = (p, m, 0) ∧ n ≤ m ∧ m ≤ n + f ∧ Down key p m
  | 0, n, h1, ap, dn => ⟨n, rfl, Nat.le_refl _, Nat.le_refl _, dn⟩
  | f + 1, n, h1, ap, dn => by
    by_cases c : lt key (p.getD n 0) (p.getD (n - 1) 0) = true
    · have e : run (lt key) (kas_desc (f + 1) p n 0) = run (lt key) (kas_desc f p (n + 1) 0) := by
        show run (lt key) (if lt key (p.getD n 0) (p.getD (n - 1) 0) = true then (if 0 > 0 then _ else kas_desc f p (n + 1) 0) else _) = _
        rw [if_pos c, if_neg (by decide)]
      have c' : kp key p n < kp key p (n - 1) := of_decide_eq_true c
      have dn' : Down key p (n + 1) := fun i j hij hj => by
        by_cases hjn : j < n
        · exact dn i j hij hjn
        · have : j = n := by omega
          subst this
          by_cases hi : i = j - 1
          · subst hi; exact c'
          · have := dn i (j - 1) (by omega) (by omega)
            omega
      obtain ⟨m, e1, h2, h3, h4⟩ := desc_ok p f (n + 1) (by omega) (by rw [show n + 1 + f = n + (f + 1) by omega]; exact ap) dn'
      exact ⟨m, e.trans e1, by omega, by omega, h4⟩
    · have c' : ¬ kp key p n < kp key p (n - 1) := fun z => c (decide_eq_true z)
      have ne : kp key p n ≠ kp key p (n - 1) := fun z => by
        have := ap n (n - 1) (by omega) (by omega) z
        omega
      have d : lt key (p.getD (n - 1) 0) (p.getD n 0) = true := decide_eq_true (show kp key p (n - 1) < kp key p n by omega)
      refine ⟨n, ?_, Nat.le_refl _, by omega, dn⟩
      show run (lt key) (if lt key (p.getD n 0) (p.getD (n - 1) 0) = true then _ else KasT.ask (p.getD (n - 1) 0) (p.getD n 0) fun d => if d = true then KasT.ret (p, n, 0) else kas_desc f p (n + 1) (0 + 1)) = _
      rw [if_neg c]
      show run (lt key) (if lt key (p.getD (n - 1) 0) (p.getD n 0) = true then KasT.ret (p, n, 0) else kas_desc f p (n + 1) (0 + 1)) = _
      rw [if_pos d]; rfl
theorem kp_rev {p : Array Nat} {n x : Nat} (hn : n ≤ p.size) : kp key (kas_rev p 0 n) x = if x < n then kp key p (n - 1 - x) else kp key p x := by
  have e := getElem?_mirror_all (i := 0) hn x
  have g : ∀ (a b : Array Nat) (i j : Nat), a[i]? = b[j]? → a.getD i 0 = b.getD j 0 := fun a b i j h => by
    rw [Array.getD_eq_getD_getElem?, Array.getD_eq_getD_getElem?, h]
  by_cases h : x < n
  · rw [if_pos h]
    rw [if_pos ⟨Nat.zero_le _, h⟩] at e
    unfold kp kas_rev
    rw [g _ _ _ _ e, show 0 + n - 1 - x = n - 1 - x by omega]
  · rw [if_neg h]
    rw [if_neg (fun z => h z.2)] at e
    unfold kp kas_rev
    rw [g _ _ _ _ e]
theorem count_ok {p : Array Nat} {n : Nat} (h1 : 1 ≤ n) (hs : p.size = n) (ap : Apart key p n) :
    ∃ m p', run (lt key) (kas_count n p) = (m, p') ∧ 1 ≤ m ∧ m ≤ n ∧ p'.Perm p ∧ Up key p' m := by
  have a := asc_ok (key := key) p (n - 1) 1 (Nat.le_refl _) (by rw [show 1 + (n - 1) = n by omega]; exact ap) (fun i j hij hj => by omega)
  have e : run (lt key) (kas_count n p) = run (lt key) (if (run (lt key) (kas_asc p (n - 1) 1) == n) = true then KasT.ret (run (lt key) (kas_asc p (n - 1) 1), p) else if run (lt key) (kas_asc p (n - 1) 1) > 1 then
      KasT.ask (p.getD 0 0) (p.getD (run (lt key) (kas_asc p (n - 1) 1) - 1) 0) fun c => if c = true then KasT.ret (run (lt key) (kas_asc p (n - 1) 1), p) else kas_descPart (run (lt key) (kas_asc p (n - 1) 1)) n (kas_rev p 0 (run (lt key) (kas_asc p (n - 1) 1)))
      else kas_descPart (run (lt key) (kas_asc p (n - 1) 1)) n p) := run_bind _ _ _
  rw [e]
  generalize run (lt key) (kas_asc p (n - 1) 1) = r at a
  obtain ⟨a1, a2, a3, a4⟩ := a
  by_cases c1 : (r == n) = true
  · rw [if_pos c1]
    have : r = n := eq_of_beq c1
    exact ⟨r, p, rfl, a1, by omega, Array.Perm.refl _, a3⟩
  rw [if_neg c1]
  have rn : r ≠ n := fun z => c1 (by rw [z]; exact beq_self_eq_true n)
  by_cases c2 : r > 1
  · rw [if_pos c2]
    have d : lt key (p.getD 0 0) (p.getD (r - 1) 0) = true := decide_eq_true (show kp key p 0 < kp key p (r - 1) from a3 0 (r - 1) (by omega) (by omega))
    refine ⟨r, p, ?_, a1, by omega, Array.Perm.refl _, a3⟩
    show run (lt key) (if lt key (p.getD 0 0) (p.getD (r - 1) 0) = true then KasT.ret (r, p) else _) = _
    rw [if_pos d]; rfl
  · rw [if_neg c2]
    have r1 : r = 1 := by omega
    subst r1
    have d0 := a4 (by omega)
    have dn : Down key p 2 := fun i j hij hj => by
      have : i = 0 := by omega
      have : j = 1 := by omega
      subst i; subst j
      exact d0
    obtain ⟨m, e1, h2, h3, h4⟩ := desc_ok (key := key) p (n - 2) 2 (Nat.le_refl _) (by rw [show 2 + (n - 2) = n by omega]; exact ap) dn
    have hm : m ≤ p.size := by omega
    have up : Up key (kas_rev p 0 m) m := fun i j hij hj => by
      rw [kp_rev hm, kp_rev hm, if_pos (by omega), if_pos hj]
      exact h4 _ _ (by omega) (by omega)
    have ap' : Apart key (kas_rev p 0 m) (m + (n - m)) := fun i j hi hj z => by
      rw [kp_rev hm, kp_rev hm] at z
      by_cases ci : i < m
      · rw [if_pos ci] at z
        by_cases cj : j < m
        · rw [if_pos cj] at z
          have := ap _ _ (by omega) (by omega) z
          omega
        · rw [if_neg cj] at z
          have := ap _ _ (by omega) (by omega) z
          omega
      · rw [if_neg ci] at z
        by_cases cj : j < m
        · rw [if_pos cj] at z
          have := ap _ _ (by omega) (by omega) z
          omega
        · rw [if_neg cj] at z
          exact ap _ _ (by omega) (by omega) z
    have b := asc_ok (key := key) (kas_rev p 0 m) (n - m) m (by omega) ap' up
    refine ⟨run (lt key) (kas_asc (kas_rev p 0 m) (n - m) m), kas_rev p 0 m, ?_, by omega, by omega, mirror_perm _ _ _ _, b.2.2.1⟩
    show run (lt key) ((kas_desc (n - (1 + 1)) p (1 + 1) 0).bind _) = _
    rw [run_bind, e1]
    show run (lt key) (if 0 > 0 then _ else kas_tail3 m n p) = _
    rw [if_neg (by decide)]
    show run (lt key) ((kas_asc (kas_rev p 0 m) (n - m) m).bind _) = _
    rw [run_bind]; rfl
theorem place_ok {p : Array Nat} {k : Nat} (up : Up key p k) (ap : ∀ i, i < k → kp key p i ≠ kp key p k) : ∀ (f l r : Nat), l ≤ r → r ≤ k → r ≤ l + f → (∀ i, i < l → kp key p i < kp key p k) → (∀ i, r ≤ i → i < k → kp key p k < kp key p i) →
    run (lt key) (kas_place p k f l r) ≤ k ∧ (∀ i, i < run (lt key) (kas_place p k f l r) → kp key p i < kp key p k) ∧ (∀ i, run (lt key) (kas_place p k f l r) ≤ i → i < k → kp key p k < kp key p i)
  | 0, l, r, h1, h2, h3, h4, h5 => by
    have : l = r := by omega
    subst this
    exact ⟨h2, h4, h5⟩
  | f + 1, l, r, h1, h2, h3, h4, h5 => by
    show run (lt key) (if l ≥ r then KasT.ret l else KasT.ask (p.getD k 0) (p.getD ((l + r) / 2) 0) fun c => if c = true then kas_place p k f l ((l + r) / 2) else kas_place p k f ((l + r) / 2 + 1) r) ≤ k ∧ (∀ i, i < run (lt key) (kas_place p k (f + 1) l r) → _) ∧ (∀ i, run (lt key) (kas_place p k (f + 1) l r) ≤ i → _)
    by_cases c : l ≥ r
    · have : l = r := by omega
      subst this
      have e : run (lt key) (kas_place p k (f + 1) l l) = l := by
        show run (lt key) (if l ≥ l then KasT.ret l else _) = l
        rw [if_pos c]; rfl
      rw [if_pos c, e]
      exact ⟨h2, h4, h5⟩
    · have e : run (lt key) (kas_place p k (f + 1) l r) = run (lt key) (if lt key (p.getD k 0) (p.getD ((l + r) / 2) 0) = true then kas_place p k f l ((l + r) / 2) else kas_place p k f ((l + r) / 2 + 1) r) := by
        show run (lt key) (if l ≥ r then KasT.ret l else KasT.ask (p.getD k 0) (p.getD ((l + r) / 2) 0) fun c => if c = true then kas_place p k f l ((l + r) / 2) else kas_place p k f ((l + r) / 2 + 1) r) = _
        rw [if_neg c]; rfl
      have e' : run (lt key) (if l ≥ r then KasT.ret l else KasT.ask (p.getD k 0) (p.getD ((l + r) / 2) 0) fun c => if c = true then kas_place p k f l ((l + r) / 2) else kas_place p k f ((l + r) / 2 + 1) r) = run (lt key) (kas_place p k (f + 1) l r) := rfl
      rw [e', e]
      by_cases d : lt key (p.getD k 0) (p.getD ((l + r) / 2) 0) = true
      · rw [if_pos d]
        have d' : kp key p k < kp key p ((l + r) / 2) := of_decide_eq_true d
        refine place_ok up ap f l ((l + r) / 2) (by omega) (by omega) (by omega) h4 fun i hi hk => ?_
        by_cases hi' : i = (l + r) / 2
        · subst hi'; exact d'
        · have := up ((l + r) / 2) i (by omega) hk
          omega
      · rw [if_neg d]
        have d' : ¬ kp key p k < kp key p ((l + r) / 2) := fun z => d (decide_eq_true z)
        have ne := ap ((l + r) / 2) (by omega)
        refine place_ok up ap f ((l + r) / 2 + 1) r (by omega) h2 (by omega) (fun i hi => ?_) h5
        by_cases hi' : i = (l + r) / 2
        · subst hi'; omega
        · have := up i ((l + r) / 2) (by omega) (by omega)
          omega
theorem kp_bubble {p : Array Nat} {k d x : Nat} (hk : k < p.size) (hd : d ≤ k) : kp key (bubble p k d) x = if x = k - d then kp key p k else if k - d < x ∧ x ≤ k then kp key p (x - 1) else kp key p x := by
  have e := getElem?_bubble hk d hd x
  have g : ∀ (a b : Array Nat) (i j : Nat), a[i]? = b[j]? → a.getD i 0 = b.getD j 0 := fun a b i j h => by
    rw [Array.getD_eq_getD_getElem?, Array.getD_eq_getD_getElem?, h]
  unfold kp
  by_cases h1 : x = k - d
  · rw [if_pos h1] at e ⊢; rw [g _ _ _ _ e]
  · rw [if_neg h1] at e ⊢
    by_cases h2 : k - d < x ∧ x ≤ k
    · rw [if_pos h2] at e ⊢; rw [g _ _ _ _ e]
    · rw [if_neg h2] at e ⊢; rw [g _ _ _ _ e]
theorem bin_ok {n : Nat} : ∀ (f : Nat) (p : Array Nat) (k : Nat), p.size = n → k + f = n → Apart key p n → Up key p k → (run (lt key) (kas_bin f p k)).Perm p ∧ Up key (run (lt key) (kas_bin f p k)) n
  | 0, p, k, hs, hk, ap, up => ⟨Array.Perm.refl _, by have : k = n := by omega
                                                      subst this; exact up⟩
  | f + 1, p, k, hs, hk, ap, up => by
    have e : run (lt key) (kas_bin (f + 1) p k) = run (lt key) (kas_bin f (bubble p k (k - run (lt key) (kas_place p k k 0 k))) (k + 1)) := run_bind _ _ _
    have pl := place_ok (key := key) (p := p) (k := k) up (fun i hi z => by have := ap i k (by omega) (by omega) z; omega) k 0 k (Nat.zero_le _) (Nat.le_refl _) (by omega) (fun i hi => absurd hi (Nat.not_lt_zero _)) (fun i h1 h2 => by omega)
    rw [e]
    generalize run (lt key) (kas_place p k k 0 k) = l at pl
    obtain ⟨l1, l2, l3⟩ := pl
    have hkp : k < p.size := by omega
    have kb : ∀ x, kp key (bubble p k (k - l)) x = if x = l then kp key p k else if l < x ∧ x ≤ k then kp key p (x - 1) else kp key p x := fun x => by
      have := kp_bubble (key := key) (x := x) hkp (Nat.sub_le k l)
      rw [show k - (k - l) = l by omega] at this
      exact this
    have up' : Up key (bubble p k (k - l)) (k + 1) := fun i j hij hj => by
      rw [kb i, kb j]
      by_cases i1 : i = l
      · rw [if_pos i1, if_neg (by omega), if_pos ⟨by omega, by omega⟩]
        exact l3 _ (by omega) (by omega)
      · rw [if_neg i1]
        by_cases i2 : l < i ∧ i ≤ k
        · rw [if_pos i2, if_neg (by omega), if_pos ⟨by omega, by omega⟩]
          exact up _ _ (by omega) (by omega)
        · rw [if_neg i2]
          by_cases j1 : j = l
          · rw [if_pos j1]
            exact l2 _ (by omega)
          · rw [if_neg j1]
            by_cases j2 : l < j ∧ j ≤ k
            · rw [if_pos j2]
              have a1 := l2 i (by omega)
              have a2 := l3 (j - 1) (by omega) (by omega)
              omega
            · rw [if_neg j2]
              exact up _ _ (by omega) (by omega)
    have ap' : Apart key (bubble p k (k - l)) n := fun i j hi hj z => by
      rw [kb i, kb j] at z
      by_cases i1 : i = l
      · rw [if_pos i1] at z
        by_cases j1 : j = l
        · omega
        · rw [if_neg j1] at z
          by_cases j2 : l < j ∧ j ≤ k
          · rw [if_pos j2] at z; have := ap _ _ (by omega) (by omega) z; omega
          · rw [if_neg j2] at z; have := ap _ _ (by omega) (by omega) z; omega
      · rw [if_neg i1] at z
        by_cases i2 : l < i ∧ i ≤ k
        · rw [if_pos i2] at z
          by_cases j1 : j = l
          · rw [if_pos j1] at z; have := ap _ _ (by omega) (by omega) z; omega
          · rw [if_neg j1] at z
            by_cases j2 : l < j ∧ j ≤ k
            · rw [if_pos j2] at z; have := ap _ _ (by omega) (by omega) z; omega
            · rw [if_neg j2] at z; have := ap _ _ (by omega) (by omega) z; omega
        · rw [if_neg i2] at z
          by_cases j1 : j = l
          · rw [if_pos j1] at z; have := ap _ _ (by omega) (by omega) z; omega
          · rw [if_neg j1] at z
            by_cases j2 : l < j ∧ j ≤ k
            · rw [if_pos j2] at z; have := ap _ _ (by omega) (by omega) z; omega
            · rw [if_neg j2] at z; exact ap _ _ (by omega) (by omega) z
    have ih := bin_ok f (bubble p k (k - l)) (k + 1) (by rw [bubble_size]; exact hs) (by omega) ap' up'
    exact ⟨ih.1.trans (bubble_perm _ _ _), ih.2⟩
/-- the sort by keys that differ: a permutation, rising -/
theorem sort_ok {n : Nat} (h1 : 1 ≤ n) (inj : ∀ i j, i < n → j < n → key i = key j → i = j) :
    (run (lt key) (kas_sort n)).Perm (List.toArray (List.range n)) ∧ Up key (run (lt key) (kas_sort n)) n := by
  have g : ∀ i, i < n → (List.toArray (List.range n)).getD i 0 = i := fun i hi => by
    rw [Array.getD_eq_getD_getElem?]; simp [hi]
  have ap : Apart key (List.toArray (List.range n)) n := fun i j hi hj z => by
    unfold kp at z
    rw [g i hi, g j hj] at z
    exact inj i j hi hj z
  obtain ⟨m, p', e1, m1, m2, pp, up⟩ := count_ok (key := key) h1 (by simp) ap
  have e : run (lt key) (kas_sort n) = run (lt key) (if m < n then kas_bin (n - max m 1) p' (max m 1) else KasT.ret p') := by
    show run (lt key) ((kas_count n (List.toArray (List.range n))).bind _) = _
    rw [run_bind, e1]
  rw [e]
  by_cases c : m < n
  · rw [if_pos c, show max m 1 = m by omega]
    have hsz : p'.size = n := by rw [pp.size_eq]; simp
    have ap' : Apart key p' n := fun i j hi hj z => by
      -- places of a permutation of range n
      have gi : p'.getD i 0 = p'[i]'(by omega) := by rw [Array.getD_eq_getD_getElem?]; simp [hsz, hi]
      have gj : p'.getD j 0 = p'[j]'(by omega) := by rw [Array.getD_eq_getD_getElem?]; simp [hsz, hj]
      have mi : p'[i]'(by omega) ∈ List.toArray (List.range n) := pp.mem_iff.mp (Array.getElem_mem _)
      have mj : p'[j]'(by omega) ∈ List.toArray (List.range n) := pp.mem_iff.mp (Array.getElem_mem _)
      have li : p'[i]'(by omega) < n := by simpa using mi
      have lj : p'[j]'(by omega) < n := by simpa using mj
      unfold kp at z
      rw [gi, gj] at z
      have q := inj _ _ li lj z
      have nd : p'.toList.Nodup := by
        have : (List.range n).Nodup := List.nodup_range
        exact (pp.toList.nodup_iff).mpr (by simpa using this)
      have hi' : i < p'.toList.length := by simpa [hsz] using hi
      have hj' : j < p'.toList.length := by simpa [hsz] using hj
      exact (List.getElem_inj nd (h₀ := hi') (h₁ := hj')).mp (by simpa using q)
    have b := bin_ok (key := key) (n := n) (n - m) p' m hsz (by omega) ap' up
    exact ⟨b.1.trans pp, b.2⟩
  · rw [if_neg c]
    have : m = n := by omega
    subst this
    exact ⟨pp, up⟩
end
end Srt

set_option Elab.async false
set_option linter.all false
set_option maxRecDepth 100000
set_option maxHeartbeats 4000000
namespace Srt
open PySem PySem.W PyProof.Rows
/-! ### the sort asks for places that are there -/
def Safe {α : Type} (n : Nat) : KasT α → (α → Prop) → Prop
  | .ret a, Q => Q a
  | .ask i j k, Q => i < n ∧ j < n ∧ ∀ b, Safe n (k b) Q
theorem Safe.bind {α β : Type} {n : Nat} {f : α → KasT β} {Q : α → Prop} {R : β → Prop} : ∀ {t : KasT α}, Safe n t Q → (∀ a, Q a → Safe n (f a) R) → Safe n (t.bind f) R
  | .ret a, h, k => k a h
  | .ask i j g, h, k => ⟨h.1, h.2.1, fun b => Safe.bind (h.2.2 b) k⟩
theorem wp_safe {α : Type} {n : Nat} {cmp : Nat → Nat → (Bool → Shared → Prop) → Shared → Prop} {lt : Nat → Nat → Bool} {s : Shared} {R : α → Prop} (h : ∀ i j (C : Bool → Shared → Prop), i < n → j < n → C (lt i j) s → cmp i j C s) : ∀ (t : KasT α) (Q : α → Shared → Prop), Safe n t R → Q (run lt t) s → t.kasWp cmp Q s
  | .ret _, _, _, q => q
  | .ask i j k, Q, z, q => h i j _ z.1 z.2.1 (wp_safe h (k (lt i j)) Q (z.2.2 _) q)
def Ent (n : Nat) (p : Array Nat) : Prop := ∀ x, p.getD x 0 < n
theorem Ent.of_perm {n : Nat} {p q : Array Nat} (hn : 0 < n) (h : q.Perm p) (e : Ent n p) : Ent n q := fun x => by
  rw [Array.getD_eq_getD_getElem?]
  by_cases hx : x < q.size
  · have m : q[x] ∈ p := h.mem_iff.mp (Array.getElem_mem hx)
    obtain ⟨i, hi, ei⟩ := Array.mem_iff_getElem.mp m
    have := e i
    rw [Array.getD_eq_getD_getElem?] at this
    simp only [Array.getElem?_eq_getElem hi, Option.getD_some] at this
    simp only [Array.getElem?_eq_getElem hx, Option.getD_some]
    rw [← ei]; exact this
  · simp [hx, hn]
theorem safe_asc {n : Nat} {p : Array Nat} (e : Ent n p) : ∀ (f m : Nat), Safe n (kas_asc p f m) (fun _ => True)
  | 0, _ => trivial
  | f + 1, m => ⟨e _, e _, fun b => by
    cases b with
    | true => exact trivial
    | false => exact safe_asc e f (m + 1)⟩
theorem safe_desc {n : Nat} (hn : 0 < n) : ∀ (f : Nat) (p : Array Nat) (m q : Nat), Ent n p → Safe n (kas_desc f p m q) (fun r => Ent n r.1)
  | 0, p, m, q, e => e
  | f + 1, p, m, q, e => ⟨e _, e _, fun b => by
    cases b with
    | true =>
      show Safe n (if q > 0 then _ else _) _
      split
      · exact safe_desc hn f _ _ _ (Ent.of_perm hn (mirror_perm _ _ _ _) e)
      · exact safe_desc hn f _ _ _ e
    | false => exact ⟨e _, e _, fun d => by
        cases d with
        | true => exact e
        | false => exact safe_desc hn f _ _ _ e⟩⟩
theorem safe_tail3 {n : Nat} (hn : 0 < n) {p : Array Nat} (e : Ent n p) (a b : Nat) : Safe n (kas_tail3 a b p) (fun r => Ent n r.2) :=
  Safe.bind (safe_asc (Ent.of_perm hn (mirror_perm _ _ _ _) e) _ _) fun _ _ => Ent.of_perm hn (mirror_perm _ _ _ _) e
theorem safe_descPart {n : Nat} (hn : 0 < n) {p : Array Nat} (e : Ent n p) (a b : Nat) : Safe n (kas_descPart a b p) (fun r => Ent n r.2) :=
  Safe.bind (safe_desc hn _ _ _ _ e) fun r er => by
    show Safe n (if r.2.2 > 0 then _ else _) _
    split
    · exact safe_tail3 hn (Ent.of_perm hn (mirror_perm _ _ _ _) er) _ _
    · exact safe_tail3 hn er _ _
theorem safe_count {n : Nat} (hn : 0 < n) {p : Array Nat} (e : Ent n p) (b : Nat) : Safe n (kas_count b p) (fun r => Ent n r.2) :=
  Safe.bind (safe_asc e _ _) fun r _ => by
    show Safe n (if (r == b) = true then _ else _) _
    split
    · exact e
    · split
      · exact ⟨e _, e _, fun c => by
          cases c with
          | true => exact e
          | false => exact safe_descPart hn (Ent.of_perm hn (mirror_perm _ _ _ _) e) _ _⟩
      · exact safe_descPart hn e _ _
theorem safe_place {n : Nat} {p : Array Nat} (e : Ent n p) (k : Nat) : ∀ (f l r : Nat), Safe n (kas_place p k f l r) (fun _ => True)
  | 0, _, _ => trivial
  | f + 1, l, r => by
    show Safe n (if l ≥ r then _ else _) _
    split
    · exact trivial
    · exact ⟨e _, e _, fun c => by
        cases c with
        | true => exact safe_place e k f _ _
        | false => exact safe_place e k f _ _⟩
theorem safe_bin {n : Nat} (hn : 0 < n) : ∀ (f : Nat) (p : Array Nat) (k : Nat), Ent n p → Safe n (kas_bin f p k) (fun _ => True)
  | 0, _, _, _ => trivial
  | f + 1, p, k, e => Safe.bind (safe_place e k _ _ _) fun l _ => safe_bin hn f _ _ (Ent.of_perm hn (bubble_perm _ _ _) e)
theorem safe_sort {n : Nat} (hn : 0 < n) : Safe n (kas_sort n) (fun _ => True) := by
  have e : Ent n (List.toArray (List.range n)) := fun x => by
    rw [Array.getD_eq_getD_getElem?]
    by_cases h : x < n
    · simp [h]
    · simp [h, hn]
  exact Safe.bind (safe_count hn e n) fun r er => by
    show Safe n (if r.1 < n then _ else _) _
    split
    · exact safe_bin hn _ _ _ er
    · exact trivial
/-! ### sorted of a list of one item or none -/
section
variable {prog : Program} {w : World} {A : Around} {E : Value → Shared → Prop} {s : Shared}
theorem small_tree {a : Addr} {vs : List Value} {n : Nat} {P : PySem.Fin → Shared → Prop} (hoL : s.heap.get? a = some (seqObj "list" vs.toArray n)) (h2 : vs.length < 2)
    (h : P (.done (.ret .none)) { s with heap := sortedHeap s.heap a vs ((pairsOf vs).map (·.2)) }) : wpAny (model prog w) A (Builtin.«list.sort» ⟨[.ref a], []⟩) P E s := by
  have hz : vs.length ≤ sizeLine := by rw [sizeLine_eq]; omega
  have ha : a < s.heap.objs.size := Heap.lt_size hoL
  rw [list_sort_plain]
  refine wpAny_bind (listItems_at hoL rfl (wpAny_bind (listUpdate_at hoL rfl ?_ (by rw [List.size_toArray]; exact hz) (Nat.zero_le _))))
  obtain ⟨e1, ho1⟩ : ∃ e1, (s.heap.update a (Obj.mapSeq fun _ => (#[] : Array Value))).get? a = some (seqObj "list" #[] e1) := ⟨_, get?_update_seq hoL fun _ => #[]⟩
  refine wpAny_bind (seqEpoch_at ho1 rfl (wpAny_bind (wpAny_newTuple (wpAny_bind (wpAny_newList (wpAny_holding ?_) (Nat.zero_le _))) hz)))
  have ho6 : (((s.heap.update a (Obj.mapSeq fun _ => (#[] : Array Value))).push (seqObj "tuple" vs.toArray 0)).push (seqObj "list" #[] 0)).get? a = some (seqObj "list" #[] e1) := by
    rw [Heap.get?_push_ne _ _ _ (by rw [size_push', Heap.size_update]; exact Nat.ne_of_lt (Nat.lt_succ_of_lt ha)), Heap.get?_push_ne _ _ _ (by rw [Heap.size_update]; exact Nat.ne_of_lt ha)]; exact ho1
  show wpAny (model prog w) A _ P E { s with heap := (((s.heap.update a (Obj.mapSeq fun _ => #[])).push (seqObj "tuple" vs.toArray 0)).push (seqObj "list" #[] 0)) }
  dsimp only
  have hs2 : vs.toArray.size < 2 := by rw [List.size_toArray]; exact h2
  rw [if_pos hs2, if_pos hs2]
  refine wpAny_bind (wpAny_pure ?_)
  rw [StateT.run_pure]
  refine wpAny_bind (wpAny_pure ?_)
  dsimp only
  refine wpAny_bind (seqEpoch_at ho6 rfl (wpAny_bind (listUpdate_at ho6 rfl ?_ (Nat.zero_le _) (by rw [Array.size_map]; show (pairsOf vs).size ≤ _; rw [pairsOf_size]; omega))))
  simp only [bne_self_eq_false, Bool.false_eq_true, if_false]
  exact wpAny_pure h
theorem sorted_small {l : Addr} {vs : List Value} {Q : Value → Shared → Prop} (hl : s.heap.IsList l vs.toArray) (h2 : vs.length < 2)
    (h : Q (.ref (s.heap.objs.size + 1)) { s with heap := sortedAll s.heap vs ((pairsOf vs).map (·.2)) }) : wpAny (model prog w) A (call (.builtin "sorted") [.ref l]) Q E s := by
  have hz : vs.length ≤ sizeLine := by rw [sizeLine_eq]; omega
  apply Calls.call_function_entry kind_sorted plain_sorted entry_sorted (args_sorted1 _)
  unfold Builtin.«sorted»
  refine wpAny_bind (m := checkCount "sorted" 1 1 _) (wpAny_pure (wpAny_bind (collect_list hl (wpAny_bind (wpAny_newList ?_ hz)) hz)))
  have e0 : ((s.heap.push (seqObj "list" #[] 0)).update s.heap.objs.size (Obj.mapSeq (· ++ vs.toArray))).objs.size = s.heap.objs.size + 1 := by rw [Heap.size_update, size_push']
  have hoL : (((s.heap.push (seqObj "list" #[] 0)).update s.heap.objs.size (Obj.mapSeq (· ++ vs.toArray))).push (seqObj "list" vs.toArray 0)).get? (s.heap.objs.size + 1) = some (seqObj "list" vs.toArray 0) := by rw [← e0]; exact Heap.get?_push_size _ rfl
  show wpAny _ _ _ _ _ { s with heap := (((s.heap.push (seqObj "list" #[] 0)).update s.heap.objs.size (Obj.mapSeq (· ++ vs.toArray))).push (seqObj "list" vs.toArray 0)) }
  rw [e0]
  refine wpAny_bind (wpAny_holding (wpAny_call_entry slot_list_sort ⟨_, hoL, rfl⟩ entry_list_sort (small_tree hoL h2 ⟨_, rfl, wpAny_pure ⟨_, rfl, h⟩⟩) (args_list_sort _)))
end
end Srt

set_option Elab.async false
set_option linter.all false
set_option maxRecDepth 100000
set_option maxHeartbeats 2000000
namespace L2
open PySem PySem.Spec PyProof.Rows
/-! ### == and != of values, lists and tuples to any depth -/
inductive EqR (K : PySem.W.Frag) (H : Hp) : Nat → V → V → Bool → Prop
  | flat {n : Nat} {x y : V} (fx : flatV x = true) (fy : flatV y = true) : EqR K H n x y (eqV x y)
  | lens {n : Nat} {a b : Addr} {xs ys : List V} (ha : SqL K H a xs) (hb : SqL K H b ys) (hl : xs.length ≠ ys.length) : EqR K H (n + 1) (.ref a) (.ref b) false
  | lst {n : Nat} {a b : Addr} {xs ys : List V} {e : Nat → Bool} (ha : SqL K H a xs) (hb : SqL K H b ys) (hl : xs.length = ys.length) (h : ∀ (j : Nat) x y, xs[j]? = some x → ys[j]? = some y → EqR K H n x y (e j)) : EqR K H (n + 1) (.ref a) (.ref b) ((List.range xs.length).all e)
  | tup {n : Nat} {a b : Addr} {xs ys : List V} {e : Nat → Bool} (ha : SqT K H a xs) (hb : SqT K H b ys) (h : ∀ (j : Nat) x y, xs[j]? = some x → ys[j]? = some y → EqR K H n x y (e j)) :
      EqR K H (n + 1) (.ref a) (.ref b) ((List.range (min xs.length ys.length)).all e && xs.length == ys.length)
theorem eqV_self {x : V} (f : flatV x = true) : eqV x x = true := by
  cases x <;> first | rfl | (simp [eqV]; done) | exact absurd (show false = true from f) Bool.false_ne_true
section
variable {X : Cx} {pins : List (Addr × Obj)} {σ : St} {H : Hp} {s : Shared}
theorem EqR.self (I : Inv X pins σ H s) {n : Nat} {x y : V} {b : Bool} (h : EqR X.K H n x y b) : x = y → b = true := by
  induction h with
  | flat fx fy => intro e; subst e; exact eqV_self fx
  | lens ha hb hl =>
    intro e
    injection e with e; subst e
    exact absurd (by rw [I.list_inj ha hb]) hl
  | @lst n a b xs ys e ha hb hl h ih =>
    intro q
    injection q with q; subst q
    obtain rfl := I.list_inj ha hb
    rw [List.all_eq_true]
    intro j hj
    have hj' : j < xs.length := List.mem_range.mp hj
    exact ih j _ _ (List.getElem?_eq_getElem hj') (List.getElem?_eq_getElem hj') rfl
  | @tup n a b xs ys e ha hb h ih =>
    intro q
    injection q with q; subst q
    obtain rfl := I.tuple_inj ha hb
    rw [Bool.and_eq_true, List.all_eq_true]
    refine ⟨fun j hj => ?_, beq_self_eq_true _⟩
    have hj' : j < xs.length := by have := List.mem_range.mp hj; omega
    exact ih j _ _ (List.getElem?_eq_getElem hj') (List.getElem?_eq_getElem hj') rfl
theorem paired_at {xs : List V} {its : List Value} (r : Vals xs its) {j : Nat} (h : j < its.toArray.size) : ∃ x, xs[j]? = some x ∧ RelV x its.toArray[j] := by
  have hl := r.length
  have h' : j < xs.length := by rw [hl]; simpa using h
  obtain ⟨u, hu, ru⟩ := r.get (List.getElem?_eq_getElem h')
  refine ⟨_, List.getElem?_eq_getElem h', ?_⟩
  have e : its.toArray[j] = u := by
    have : its[j]? = some u := hu
    rw [List.getElem?_eq_getElem (by simpa using h)] at this
    simpa using Option.some.inj this
  rw [e]; exact ru
theorem EqR.at (I : Inv X pins σ H s) {n : Nat} {x y : V} {b : Bool} (h : EqR X.K H n x y b) : ∀ {A : Around} {u v : Value}, RelV x u → RelV y v → A.units + n < cLine → SeqAt.EqAt A s u v b := by
  induction h with
  | flat fx fy => intro A u v rx ry hu; exact eqAt_V rx ry fx fy
  | @lens n a b xs ys ha hb hl =>
    intro A u v rx ry hu
    cases rx; cases ry
    obtain ⟨its, r, pl, _⟩ := I.list ha
    obtain ⟨its2, r2, pl2, _⟩ := I.list hb
    have ne : a ≠ b := fun e => by subst e; exact hl (by rw [I.list_inj ha hb])
    refine .of_refs ne (.lists_lengths pl.isList pl2.isList ?_ (by omega))
    rw [List.size_toArray, List.size_toArray, ← r.length, ← r2.length]
    exact bne_iff_ne.mpr hl
  | @lst n a b xs ys e ha hb hl h ih =>
    intro A u v rx ry hu
    by_cases q : a = b
    · have := (EqR.lst ha hb hl h).self I (by rw [q])
      cases rx; cases ry
      rw [this]
      subst q
      exact SeqAt.EqAt.same _
    · cases rx; cases ry
      obtain ⟨its, r, pl, _⟩ := I.list ha
      obtain ⟨its2, r2, pl2, _⟩ := I.list hb
      have e1 : its.toArray.size = xs.length := by rw [List.size_toArray, r.length]
      rw [← e1]
      refine .of_refs q (.lists pl.isList pl2.isList (by rw [List.size_toArray, List.size_toArray, ← r.length, ← r2.length]; exact hl) (by omega) fun j h1 h2 => ?_)
      obtain ⟨x, hx, rx⟩ := paired_at r h1
      obtain ⟨y, hy, ry⟩ := paired_at r2 h2
      exact ih j x y hx hy rx ry (by show A.units + 1 + n < cLine; omega)
  | @tup n a b xs ys e ha hb h ih =>
    intro A u v rx ry hu
    by_cases q : a = b
    · have := (EqR.tup ha hb h).self I (by rw [q])
      cases rx; cases ry
      rw [this]
      subst q
      exact SeqAt.EqAt.same _
    · cases rx; cases ry
      obtain ⟨its, r, pl, _⟩ := I.tuple ha
      obtain ⟨its2, r2, pl2, _⟩ := I.tuple hb
      have e1 : its.toArray.size = xs.length := by rw [List.size_toArray, r.length]
      have e2 : its2.toArray.size = ys.length := by rw [List.size_toArray, r2.length]
      rw [← e1, ← e2]
      refine .of_refs q (.tuples pl pl2 (by omega) fun j h1 h2 => ?_)
      obtain ⟨x, hx, rx⟩ := paired_at r h1
      obtain ⟨y, hy, ry⟩ := paired_at r2 h2
      exact ih j x y hx hy rx ry (by show A.units + 1 + n < cLine; omega)
/-- two lists compared -/
def rEqL (K : PySem.W.Frag) (neg : Bool) : R2 := fun x y H Q => ∃ n a b xs ys, n ≤ 60 ∧ x = .ref a ∧ y = .ref b ∧ SqL K H a xs ∧ SqL K H b ys ∧
  ((xs.length ≠ ys.length ∧ Q (.bl neg) H) ∨ ∃ e : Nat → Bool, xs.length = ys.length ∧ (∀ (j : Nat) x y, xs[j]? = some x → ys[j]? = some y → EqR K H n x y (e j)) ∧ Q (.bl (if neg then !(List.range xs.length).all e else (List.range xs.length).all e)) H)
theorem op_eqL (hu : X.A.units + 64 < cLine) : OpR X (compareOp .Eq) (rEqL X.K false) := by
  intro pins s σ H x y v u Q I rx ry h
  obtain ⟨n, a, b, xs, ys, hn, rfl, rfl, ha, hb, h⟩ := h
  cases rx; cases ry
  obtain ⟨its, r, pl, _⟩ := I.list ha
  obtain ⟨its2, r2, pl2, _⟩ := I.list hb
  have e1 : its.toArray.size = xs.length := by rw [List.size_toArray, r.length]
  have e2 : its2.toArray.size = ys.length := by rw [List.size_toArray, r2.length]
  rcases h with ⟨hl, q⟩ | ⟨e, hl, he, q⟩
  · exact SeqAt.eq_list_lengthsAt pl.isList pl2.isList (by rw [e1, e2]; exact bne_iff_ne.mpr hl) (by omega) ⟨.bl false, H, I, rfl, q⟩
  · refine SeqAt.eq_listAt (e := e) pl.isList pl2.isList (by rw [e1, e2]; exact hl) (by omega) (fun j h1 h2 => ?_) ?_
    · obtain ⟨x, hx, rx⟩ := paired_at r h1
      obtain ⟨y, hy, ry⟩ := paired_at r2 h2
      exact (he j x y hx hy).at I rx ry (by show X.A.units + 1 + n < cLine; omega)
    · rw [e1]; exact ⟨.bl _, H, I, rfl, q⟩
theorem op_neL (hu : X.A.units + 64 < cLine) : OpR X (compareOp .NotEq) (rEqL X.K true) := by
  intro pins s σ H x y v u Q I rx ry h
  obtain ⟨n, a, b, xs, ys, hn, rfl, rfl, ha, hb, h⟩ := h
  cases rx; cases ry
  obtain ⟨its, r, pl, _⟩ := I.list ha
  obtain ⟨its2, r2, pl2, _⟩ := I.list hb
  have e1 : its.toArray.size = xs.length := by rw [List.size_toArray, r.length]
  have e2 : its2.toArray.size = ys.length := by rw [List.size_toArray, r2.length]
  rcases h with ⟨hl, q⟩ | ⟨e, hl, he, q⟩
  · exact SeqAt.RcNeAt.lists_lengths pl.isList pl2.isList (by rw [e1, e2]; exact bne_iff_ne.mpr hl) (by omega) _ _ _ _ ⟨.bl true, H, I, rfl, q⟩
  · refine SeqAt.RcNeAt.lists (e := e) pl.isList pl2.isList (by rw [e1, e2]; exact hl) (by omega) (fun j h1 h2 => ?_) _ _ _ _ ?_
    · obtain ⟨x, hx, rx⟩ := paired_at r h1
      obtain ⟨y, hy, ry⟩ := paired_at r2 h2
      exact (he j x y hx hy).at I rx ry (by show X.A.units + 1 + n < cLine; omega)
    · rw [e1]; exact ⟨.bl _, H, I, rfl, q⟩
end
/-! ### sorted of a list of pairs of ints -/
abbrev PairIn (H : Hp) (p : Int × Int) (v : V) : Prop := ∃ a, v = .ref a ∧ H a = some (.tup [.int p.1, .int p.2])
abbrev PairsIn (H : Hp) : List (Int × Int) → List V → Prop := Paired (PairIn H)
def pkey (p : Int × Int) : Int := p.1 * 1000 + p.2
def Fine (ps : List (Int × Int)) : Prop := (∀ p ∈ ps, 0 ≤ p.2 ∧ p.2 < 1000) ∧ ps.Nodup
theorem pkey_lt {p q : Int × Int} (h1 : 0 ≤ p.2 ∧ p.2 < 1000) (h2 : 0 ≤ q.2 ∧ q.2 < 1000) : (if p.1 = q.1 then decide (p.2 < q.2) else decide (p.1 < q.1)) = decide (pkey p < pkey q) := by
  unfold pkey
  split
  · rename_i e
    rw [e]
    by_cases c : p.2 < q.2
    · rw [decide_eq_true c, decide_eq_true (by omega)]
    · rw [decide_eq_false c, decide_eq_false (by omega)]
  · rename_i e
    by_cases c : p.1 < q.1
    · rw [decide_eq_true c, decide_eq_true (by omega)]
    · rw [decide_eq_false c, decide_eq_false (by omega)]
theorem pkey_inj {p q : Int × Int} (h1 : 0 ≤ p.2 ∧ p.2 < 1000) (h2 : 0 ≤ q.2 ∧ q.2 < 1000) (e : pkey p = pkey q) : p = q := by
  unfold pkey at e
  have a : p.1 = q.1 := by omega
  have b : p.2 = q.2 := by omega
  exact Prod.ext a b
theorem Inv.adopt2 {X : Cx} {pins : List (Addr × Obj)} {σ : St} {H : Hp} {s : Shared} {a : Addr} {o : HO} (I : Inv X pins σ H s) (hn : H a = none) (hx : ∀ u, X.s₀.heap.get? a ≠ some u) (hL : a ≠ X.env.locals) (hC : ∀ x c, X.env.cells.lookup x = some c → c ≠ a) (hp : ∀ p ∈ X.pn ++ pins, p.1 ≠ a)
    (new : ObjOk X.prog X.w (upd H a o) s.heap a o) : Inv X pins σ (upd H a o) s := by
  have ne : ∀ b u, X.s₀.heap.get? b = some u → b ≠ a := fun b u e z => hx u (by rw [← z]; exact e)
  refine ⟨I.ok, I.os, I.bare, ⟨I.base.keep, I.base.slot, fun b u e n hx => ?_, I.base.there, fun b xs e => ?_, fun b u xs e => ?_, fun b ps e => ?_⟩, I.loc, I.cell, ?_, fun x c e => ?_, fun p hq => ?_, fun b u e => ?_, I.len⟩
  · rw [upd_ne (ne b u e)]; exact I.base.free b u e n hx
  · have q := I.base.tups b xs e
    rw [upd_ne (ne_of_none q hn)]; exact q
  · have q := I.base.frzs b u xs e
    rw [upd_ne (ne_of_none q hn)]; exact q
  · obtain ⟨m, q⟩ := I.base.tbls b ps e
    exact ⟨m, by rw [upd_ne (ne_of_none q hn)]; exact q⟩
  · rw [upd_ne (Ne.symm hL)]; exact I.free
  · rw [upd_ne (hC x c e)]; exact I.freeC x c e
  · obtain ⟨h1, h2, h3⟩ := I.pin p hq
    exact ⟨h1, by rw [upd_ne (hp p hq)]; exact h2, h3⟩
  · by_cases hb : b = a
    · subst hb; rw [upd_same] at e; cases e; exact new
    · rw [upd_ne hb] at e
      exact (I.hok b u e).stay (fun c v _ q => q) (fun c q => by rw [upd_ne (ne_of_none q hn)]; exact q) fun c xs q => by rw [upd_ne (ne_of_none q hn)]; exact q
end L2

set_option Elab.async false
set_option linter.all false
set_option maxRecDepth 100000
set_option maxHeartbeats 2000000
namespace L2
open PySem PySem.Spec PyProof.Rows
theorem ObjOk.get {P : Program} {w : World} {H : Hp} {h : Heap} {a : Addr} {o : HO} (x : ObjOk P w H h a o) : ∃ u, h.get? a = some u := by
  cases o with
  | lst xs => obtain ⟨_, _, _, _, e⟩ := x; exact ⟨_, e⟩
  | tup xs => obtain ⟨_, _, _, o, e, _⟩ := x; exact ⟨_, e⟩
  | dK kvs => obtain ⟨_, _, _, _, o, _, _, e, _⟩ := x; exact ⟨_, e⟩
  | dT kvs => obtain ⟨_, _, _, _, o, _, _, e, _⟩ := x; exact ⟨_, e⟩
  | set S n => obtain ⟨o, _, _, _, e, _⟩ := x; exact ⟨_, e⟩
  | ins C dx fs => obtain ⟨_, _, _, e, _⟩ := x; exact ⟨_, e⟩
  | own y => obtain ⟨_, e⟩ := x; exact ⟨_, e⟩
  | xd fs => obtain ⟨_, ⟨_, _, _, e, _⟩, _⟩ := x; exact ⟨_, e⟩
  | rng lo hi => obtain ⟨_, _, _, e⟩ := x; exact ⟨_, e⟩
  | frz ob u => obtain ⟨e, _⟩ := x; exact ⟨_, e⟩
  | tbl ps => exact ⟨_, (show h.get? a = some _ from x)⟩
  | met f y => exact ⟨_, (show h.get? a = some _ from x)⟩
  | ext φ => obtain ⟨_, ⟨_, e⟩, _⟩ := x; exact ⟨_, e⟩
theorem getD_map_range {α : Type} (xs : List α) (d : α) : (List.range xs.length).map (fun i => xs.getD i d) = xs := by
  apply List.ext_getElem
  · simp
  · intro i h1 h2
    simp [h2]
theorem vals_getD {vs : List V} {its : List Value} (r : Vals vs its) {i : Nat} (h : i < vs.length) : RelV (vs.getD i .non) (its.getD i .none) := by
  obtain ⟨u, hu, ru⟩ := r.get (List.getElem?_eq_getElem h)
  have e1 : vs.getD i .non = vs[i] := by simp [h]
  have e2 : its.getD i .none = u := by rw [List.getD_eq_getElem?_getD, hu]; rfl
  rw [e1, e2]; exact ru
theorem pairs_getD {H : Hp} : ∀ {ps : List (Int × Int)} {vs : List V} {i : Nat}, PairsIn H ps vs → i < vs.length → PairIn H (ps.getD i (0, 0)) (vs.getD i .non)
  | _, _, _, .nil, h => absurd h (Nat.not_lt_zero _)
  | _, _, 0, .cons a _, _ => by simpa using a
  | _, _, i + 1, .cons _ b, h => by simpa using pairs_getD (i := i) b (by simpa using h)
theorem paired_map {α β : Type} {F : α → β → Prop} {f : Nat → α} {g : Nat → β} : ∀ {l : List Nat}, (∀ i ∈ l, F (f i) (g i)) → Paired F (l.map f) (l.map g)
  | [], _ => .nil
  | i :: l, h => .cons (h i List.mem_cons_self) (paired_map fun j hj => h j (List.mem_cons_of_mem _ hj))
section
variable {X : Cx}
theorem firsts_of {H : Hp} {h' : Heap} (tk : ∀ a (p : Int × Int), H a = some (.tup [.int p.1, .int p.2]) → ∃ o k t1 t2, h'.get? a = some o ∧ o.cls = .type "tuple" ∧ o.data = .seq #[.int p.1 t1, .int p.2 t2] k) :
    ∀ {ps : List (Int × Int)} {vs : List V} {its : List Value}, PairsIn H ps vs → Vals vs its → ∃ fs, PySem.W.KatTups h' its fs ∧ fs.length = its.length ∧ ∀ v ∈ fs, ∃ i t, v = Value.int i t
  | _, _, _, .nil, .nil => ⟨[], .nil, rfl, (fun _ h => nomatch h)⟩
  | _, _, _, .cons a b, .cons r t => by
    obtain ⟨fs, h1, h2, h3⟩ := firsts_of tk b t
    obtain ⟨ad, e, ha⟩ := a
    subst e
    cases r
    obtain ⟨o, k, t1, t2, g1, g2, g3⟩ := tk ad _ ha
    refine ⟨.int _ t1 :: fs, .cons g1 g2 g3 rfl h1, congrArg (· + 1) h2, fun v hv => ?_⟩
    rcases List.mem_cons.mp hv with rfl | hv
    · exact ⟨_, _, rfl⟩
    · exact h3 v hv
theorem pair_lt {prog : Program} {w : World} {A : Around} {s : Shared} {a b : Addr} {oa ob : Obj} {ka kb : Nat} {p q : Int × Int} {t1 t2 u1 u2 : Tok} {C : Bool → Shared → Prop} (h1 : s.heap.get? a = some oa) (d1 : oa.data = .seq #[.int p.1 t1, .int p.2 t2] ka)
    (h2 : s.heap.get? b = some ob) (d2 : ob.data = .seq #[.int q.1 u1, .int q.2 u2] kb) (hp : 0 ≤ p.2 ∧ p.2 < 1000) (hq : 0 ≤ q.2 ∧ q.2 < 1000) (h : C (decide (pkey p < pkey q)) s) :
    wpAny (model prog w) A (keyLt' (tuples' true) (.ref a) (.ref b)) C (fun _ _ => False) s := by
  rw [← pkey_lt hp hq] at h
  refine PySem.W.kat_lt h1 d1 h2 d2 ?_
  show PySem.W.KatLex prog w A true (decide (2 < 2)) C [(.int p.1 t1, .int q.1 u1), (.int p.2 t2, .int q.2 u2)] 0 s
  refine PySem.W.kat_cons (SeqAt.EqAt.int_int p.1 t1 q.1 u1 prog w _ _ ?_)
  by_cases c : p.1 = q.1
  · rw [if_pos c] at h
    have e : (p.1 == q.1) = true := beq_iff_eq.mpr c
    rw [e]
    refine PySem.W.kat_yes (PySem.W.kat_cons (SeqAt.EqAt.int_int p.2 t2 q.2 u2 prog w _ _ ?_))
    by_cases c2 : p.2 = q.2
    · have e2 : (p.2 == q.2) = true := beq_iff_eq.mpr c2
      rw [e2]
      refine PySem.W.kat_yes (PySem.W.kat_nil ?_)
      rw [decide_eq_false (show ¬ p.2 < q.2 by omega)] at h
      exact h
    · have e2 : (p.2 == q.2) = false := beq_eq_false_iff_ne.mpr c2
      rw [e2]
      refine PySem.W.kat_no (PySem.W.kat_one _ _ (lt_int ?_))
      exact h
  · rw [if_neg c] at h
    have e : (p.1 == q.1) = false := beq_eq_false_iff_ne.mpr c
    rw [e]
    refine PySem.W.kat_no ?_
    exact oneLt_int h
theorem call_sortedP (hx : X.ex = []) : CallR X (.builtin "sorted") (fun xs H Q => ∃ p vs ps, xs = [.ref p] ∧ H p = some (.lst vs) ∧ PairsIn H ps vs ∧ ps.length < 64 ∧ Fine ps ∧
    ∀ q qs vs', H q = none → qs.Perm ps → (qs.map pkey).Pairwise (· < ·) → PairsIn H qs vs' → Q (.ref q) (upd H q (.lst vs'))) := by
  intro pins s σ H xs us Q I r h
  obtain ⟨p, vs, ps, rfl, hH, hp, h64, fine, q⟩ := h
  obtain ⟨u, rfl, ru⟩ := vals1 r
  cases ru
  obtain ⟨z, its, n, rv, hl, e⟩ := I.lstM hH
  have hlen : ps.length = vs.length := Paired.length hp
  by_cases h2 : its.length < 2
  · refine Srt.sorted_small (vs := its) ⟨_, e, rfl, _, rfl⟩ h2 ?_
    have eo : (pairsOf its).map (·.2) = its.toArray := by
      match its, h2 with
      | [], _ => simp [pairsOf]
      | [v], _ => simp [pairsOf]
    rw [eo]
    obtain ⟨c, hc⟩ := sortedAll_at s.heap its its.toArray
    have I1 := I.laid (a := s.heap.objs.size + 1) (o := .lst vs) (t' := s.toks) (fun b o q => sortedAll_old (vs := its) (out := its.toArray) q) (Nat.le_succ _) ⟨z, its, c, rv, hc⟩
    refine ⟨.ref _, _, I1, rfl, q _ ps vs (I.hok.fresh (Nat.le_succ _)) (List.Perm.refl _) ?_ hp⟩
    match ps, hlen with
    | [], _ => exact List.Pairwise.nil
    | [a], _ => exact List.pairwise_singleton _ _
    | a :: b :: r, hlen => simp at hlen; omega
  · obtain ⟨m, F⟩ := I.fr
    refine PySem.W.kat_sorted F (news := allNews X.base s.heap X.env.locals) news_all ⟨_, e, rfl, _, rfl⟩ (by omega) (by omega) ?_
    intro D e1 h' F' N' hD
    have nD := N' (D, _) List.mem_cons_self
    have keptG : ∀ {g : Heap} {o1 : Obj}, Fr X.base X.env.locals g m → News X.base X.env.locals g ((D, o1) :: allNews X.base s.heap X.env.locals) → ∀ b o, b ≠ X.env.locals → s.heap.get? b = some o → g.get? b = some o := fun {g o1} Fg Ng b o hb q => by
      cases w : X.base.get? b with
      | some u =>
        have := F.keep b u w
        rw [q] at this; cases this
        exact Fg.keep b _ w
      | none => exact (Ng (b, o) (List.mem_cons_of_mem _ (mem_allNews hb w q))).1
    have fresh : s.heap.get? D = none := by
      cases g : s.heap.get? D with
      | none => rfl
      | some o => exact absurd (hD (D, o) (mem_allNews nD.2.1 nD.2.2 g)) (Nat.lt_irrefl _)
    have neL : ∀ b o, H b = some o → b ≠ X.env.locals := fun b o e z => by rw [z, I.free] at e; cases e
    have tk : ∀ a (p : Int × Int), H a = some (.tup [.int p.1, .int p.2]) → ∃ o k t1 t2, h'.get? a = some o ∧ o.cls = .type "tuple" ∧ o.data = .seq #[.int p.1 t1, .int p.2 t2] k := fun a p ha => by
      obtain ⟨_, its', r', o, g1, g2, k, g3⟩ := I.hok a _ ha
      obtain ⟨u1, u2, rfl, ⟨t1, rfl⟩, ⟨t2, rfl⟩⟩ := vals2 r'
      exact ⟨o, k, t1, t2, keptG F' N' a o (neL a _ ha) g1, g2, g3⟩
    obtain ⟨fs, t1, t2, t3⟩ := firsts_of tk hp rv
    refine PySem.W.kat_kind (s := { s with heap := h' }) (T := .type "int") t1 (by omega) (fun v hv => by obtain ⟨i, t, rfl⟩ := t3 v hv; exact PySem.W.Looks.of_pure rfl) (by decide) ?_
    have nv : its.length = vs.length := hl.symm
    have kin : ∀ i, i < its.length → 0 ≤ (ps.getD i (0, 0)).2 ∧ (ps.getD i (0, 0)).2 < 1000 := fun i hi => by
      have hi' : i < ps.length := by omega
      have e : ps.getD i (0, 0) = ps[i] := by simp [hi']
      rw [e]; exact fine.1 _ (List.getElem_mem hi')
    refine Srt.wp_safe (n := its.length) (lt := Srt.lt fun i => pkey (ps.getD i (0, 0))) (fun i j C hi hj hC => ?_) _ _ (Srt.safe_sort (by omega)) ?_
    · obtain ⟨a1, ea1, ha1⟩ := pairs_getD (i := i) hp (by omega)
      obtain ⟨a2, ea2, ha2⟩ := pairs_getD (i := j) hp (by omega)
      have r1 := vals_getD rv (i := i) (by omega)
      have r2 := vals_getD rv (i := j) (by omega)
      rw [ea1] at r1; rw [ea2] at r2
      obtain ⟨o1, k1, x1, y1, g1, _, d1⟩ := tk a1 _ ha1
      obtain ⟨o2, k2, x2, y2, g2, _, d2⟩ := tk a2 _ ha2
      show wpAny _ _ (keyLt' (tuples' true) (its.getD i .none) (its.getD j .none)) C (fun _ _ => False) { s with heap := h' }
      rw [show its.getD i .none = .ref a1 from r1, show its.getD j .none = .ref a2 from r2]
      exact pair_lt (s := { s with heap := h' }) g1 d1 g2 d2 (kin i hi) (kin j hj) hC
    · have so := Srt.sort_ok (n := its.length) (key := fun i => pkey (ps.getD i (0, 0))) (by omega) fun i j hi hj ek => by
        have pe := pkey_inj (kin i hi) (kin j hj) ek
        have hi' : i < ps.length := by omega
        have hj' : j < ps.length := by omega
        have e1 : ps.getD i (0, 0) = ps[i] := by simp [hi']
        have e2 : ps.getD j (0, 0) = ps[j] := by simp [hj']
        rw [e1, e2] at pe
        exact (List.getElem_inj fine.2).mp pe
      generalize Srt.run (Srt.lt fun i => pkey (ps.getD i (0, 0))) (PySem.W.kas_sort its.length) = pm at so
      obtain ⟨so1, so2⟩ := so
      have so1' : pm.toList.Perm (List.range its.length) := by simpa using so1.toList
      have ml : pm.toList.length = its.length := by rw [so1'.length_eq]; simp
      have mem : ∀ i ∈ pm.toList, i < its.length := fun i hi => List.mem_range.mp (so1'.mem_iff.mp hi)
      refine PySem.W.KasFin.intro F' N' (PySem.W.UpdF.head fun p hp => Nat.ne_of_lt (hD p hp)) fun h'' c F'' N'' => ?_
      have kp := keptG F'' N''
      have gD := (N'' (D, _) List.mem_cons_self).1
      have I1 : Inv X pins σ H { s with heap := h'' } := by
        refine I.step (g' := s.gens) (d' := s.drawn) (t' := s.toks) (ch := []) (fun _ z => nomatch z) (fun b o hb _ _ e _ => kp b o hb e) (fun b o hb _ _ e _ => ⟨o.slots, kp b o hb e⟩) (fun _ _ _ _ n => n) (fun b o _ e => ?_) (fun _ _ e => e) (fun _ _ _ e => e) (fun b ps e => ⟨#[], by rw [e]; simp⟩) (fun m' hm => ?_) (fun b u e => ?_) I.bare
        · by_cases hb : b = X.env.locals
          · obtain ⟨o', _, _, g, _⟩ := F''.ns
            exact ⟨o', by rw [hb]; exact g⟩
          · exact ⟨o, kp b o hb e⟩
        · have : m' = m := by
            obtain ⟨o1, es1, ep1, g1, d1, _, f1⟩ := hm
            obtain ⟨o2, es2, ep2, g2, d2, _, f2⟩ := F.ns
            rw [g1] at g2; cases g2
            rw [d1] at d2; cases d2
            funext x
            rw [← f1 x, ← f2 x]
          rw [this]; exact F''.ns
        · refine (I.hok b u e).stay (fun c' v hc q => kp c' v ?_ q) (fun _ q => q) fun _ _ q => q
          rcases hc with rfl | hc
          · exact neL _ _ e
          · exact neL _ _ hc
      have hnD : H D = none := by
        cases g : H D with
        | none => rfl
        | some o =>
          obtain ⟨u, hu⟩ := (I.hok D o g).get
          rw [fresh] at hu; cases hu
      have vv : Vals (pm.toList.map fun i => vs.getD i .non) (pm.toList.map fun i => its.getD i .none) := paired_map fun i hi => vals_getD rv (by have := mem i hi; omega)
      have I2 := I1.adopt2 (o := .lst (pm.toList.map fun i => vs.getD i .non)) hnD (fun u hu => by
          obtain ⟨o', q⟩ := I.base.there D u hu (by rw [hx]; simp)
          rw [fresh] at q; cases q) nD.2.1 (fun x c e z => by
          obtain ⟨v, o, ho, _⟩ := I.cell x c e
          rw [z, fresh] at ho; cases ho) (fun p hp z => by
          have := (I.pin p hp).1
          rw [z, fresh] at this; cases this) ⟨(by rw [List.length_map, ml]; omega), _, c, vv, gD⟩
      refine ⟨.ref D, _, I2, rfl, q D (pm.toList.map fun i => ps.getD i (0, 0)) _ hnD ?_ ?_ (paired_map fun i hi => pairs_getD hp (by have := mem i hi; omega))⟩
      · have := so1'.map fun i => ps.getD i (0, 0)
        rw [show its.length = ps.length by omega, getD_map_range] at this
        exact this
      · rw [List.map_map, List.pairwise_iff_getElem]
        intro i j hi hj hij
        rw [List.length_map] at hi hj
        have := so2 i j hij (by omega)
        unfold Srt.kp at this
        have gi : pm.getD i 0 = pm.toList[i] := by rw [Array.getD_eq_getD_getElem?]; simp at hi; simp [hi]
        have gj : pm.getD j 0 = pm.toList[j] := by rw [Array.getD_eq_getD_getElem?]; simp at hj; simp [hj]
        rw [gi, gj] at this
        simpa using this
end
end L2

set_option Elab.async false
set_option linter.all false
set_option maxRecDepth 100000
set_option maxHeartbeats 2000000
namespace L2
open PySem PySem.Spec PyProof.Rows
theorem iteDT {c A B : Prop} [Decidable c] (hc : c) (h : A) : if decide c = true then A else B := by
  rw [if_pos (decide_eq_true hc)]; exact h
theorem iteDF {c A B : Prop} [Decidable c] (hc : ¬ c) (h : B) : if decide c = true then A else B := by
  rw [if_neg (fun e => hc (of_decide_eq_true e))]; exact h
/-! ### rules whose reading names the fragment alone (for a comprehension's block) -/
section
variable {X : Cx} {K : PySem.W.Frag}
theorem pg_tupK {es : List Expr} {k : Nat} {pos : Pos} {t : TGs} {n : Nat} (hK : X.K = K) (hc : X.calm = true) (h : PGs X es t)
    (hn : (assignEach es X.env).length = n := by rfl) (hst : (assignEach es X.env).findIdx? (·.1) = none := by rfl) : PG X (.Tuple es k pos) (gTup K n t) := by subst hK; exact pg_tup hc h hn hst
end
/-! ### comprehensions by a word -/
def Nxt (n i : Nat) (P : Prop) : Prop := ∃ m', m' < n - i ∧ m' = n - (i + 1) ∧ i + 1 ≤ n ∧ P
theorem lc_range {lo : Int} {n : Nat} {cap : List (Option Nat)} {g : TG} {tt : TT} {te : TE} {σ : St} {H : Hp} {Q : VK} (Pv : Nat → List V → Hp → Prop) (h0 : Pv 0 [] H) (hl : ∀ i ys H, i ≤ n → Pv i ys H → ys.length < sizeLine)
    (hs : ∀ i ys H, i < n → Pv i ys H → (∀ {P : Prop}, P → Nxt n i P) → g (.int (lo + i)) (capSt cap σ) H fun σ2 H2 => tt σ2 H2 fun b H3 => if b = true then te σ2 H3 fun v H4 => Nxt n i (Pv (i + 1) (ys ++ [v]) H4) else Nxt n i (Pv (i + 1) ys H3)) (hd : ∀ ys H, Pv n ys H → ∀ p, H p = none → Q (.ref p) (upd H p (.lst ys))) :
    LcIn cap g tt te σ Q (Itr lo n) H := by
  refine ⟨fun i m ys H => m = n - i ∧ i ≤ n ∧ Pv i ys H, ⟨n, by simp, Nat.zero_le _, h0⟩, ?_⟩
  rintro i m ys H ⟨rfl, hi, p⟩
  have q := hl i ys H hi p
  by_cases hlt : i < n
  · refine .inr ⟨hlt, q, fun x H' y => ?_⟩
    obtain ⟨e, y⟩ := y
    subst e y
    exact hs i ys _ hlt p fun h => ⟨_, by omega, rfl, hlt, h⟩
  · have e : i = n := by omega
    subst e
    exact .inl ⟨Nat.le_refl _, hd ys H p⟩
/-! ### equal things -/
theorem EqR.flat_same {K : PySem.W.Frag} {H : Hp} {n : Nat} {x : V} (f : flatV x = true) : EqR K H n x x true := by
  have := EqR.flat (K := K) (H := H) (n := n) f f
  rw [eqV_self f] at this; exact this
theorem EqR.tup_same {K : PySem.W.Frag} {H : Hp} {n : Nat} {a b : Addr} {xs ys : List V} (ha : SqT K H a xs) (hb : SqT K H b ys) (hl : xs.length = ys.length) (h : ∀ (j : Nat) x y, xs[j]? = some x → ys[j]? = some y → EqR K H n x y true) : EqR K H (n + 1) (.ref a) (.ref b) true := by
  have := EqR.tup (e := fun _ => true) ha hb h
  have e : ((List.range (min xs.length ys.length)).all (fun _ => true) && xs.length == ys.length) = true := by simp [hl]
  rw [e] at this; exact this
theorem EqR.pair_same {K : PySem.W.Frag} {H : Hp} {n : Nat} {p : Int × Int} {x y : V} (hx : PairIn H p x) (hy : PairIn H p y) : EqR K H (n + 1) x y true := by
  obtain ⟨a, rfl, ha⟩ := hx
  obtain ⟨b, rfl, hb⟩ := hy
  refine EqR.tup_same (SqT.of ha) (SqT.of hb) rfl fun j x y hx hy => ?_
  rw [hx] at hy; cases hy
  match j, hx with
  | 0, hx => simp at hx; subst hx; exact EqR.flat_same rfl
  | 1, hx => simp at hx; subst hx; exact EqR.flat_same rfl
  | j + 2, hx => simp at hx
/-- two rising lists of the same pairs are one -/
theorem pairs_one {a b c : List (Int × Int)} (ha : a.Perm c) (hb : b.Perm c) (fc : Fine c) (pa : (a.map pkey).Pairwise (· < ·)) (pb : (b.map pkey).Pairwise (· < ·)) : a = b := by
  have hab := ha.trans hb.symm
  have e : a.map pkey = b.map pkey := PySem.W.ksm_same (hab.map pkey) (pa.imp fun h => Int.le_of_lt h) (pb.imp fun h => Int.le_of_lt h)
  have fa : ∀ p ∈ a, 0 ≤ p.2 ∧ p.2 < 1000 := fun p hp => fc.1 p (ha.mem_iff.mp hp)
  have fb : ∀ p ∈ b, 0 ≤ p.2 ∧ p.2 < 1000 := fun p hp => fc.1 p (hb.mem_iff.mp hp)
  clear hab pa pb ha hb
  induction a generalizing b with
  | nil => cases b with
    | nil => rfl
    | cons _ _ => simp at e
  | cons x r ih => cases b with
    | nil => simp at e
    | cons y t =>
      rw [List.map_cons, List.map_cons] at e
      injection e with e1 e2
      rw [pkey_inj (fa x List.mem_cons_self) (fb y List.mem_cons_self) e1, ih e2 (fun p hp => fa p (List.mem_cons_of_mem _ hp)) (fun p hp => fb p (List.mem_cons_of_mem _ hp))]
end L2

set_option Elab.async false
set_option linter.all false
set_option maxRecDepth 100000
set_option maxHeartbeats 2000000
namespace L2
open PySem PySem.Spec PyProof.Rows
/-! ### things as data (dicts with ints and texts as keys) -/
def kDat : Key → PyData
  | .inl i => .int i
  | .inr x => .str x
mutual
def Dat (H : Hp) : PyData → V → Prop
  | .none, v => v = .non
  | .bool b, v => v = .bl b
  | .int i, v => v = .int i
  | .str x, v => v = .str x
  | .list ds, v => ∃ a xs, v = .ref a ∧ H a = some (.lst xs) ∧ DatAll H ds xs
  | .tuple ds, v => ∃ a xs, v = .ref a ∧ H a = some (.tup xs) ∧ DatAll H ds xs
  | .dict kvs, v => ∃ a ks, v = .ref a ∧ H a = some (.dK ks) ∧ DatKv H kvs ks
def DatAll (H : Hp) : List PyData → List V → Prop
  | [], vs => vs = []
  | d :: ds, vs => ∃ v r, vs = v :: r ∧ Dat H d v ∧ DatAll H ds r
def DatKv (H : Hp) : List (PyData × PyData) → List (Key × V) → Prop
  | [], ks => ks = []
  | (k, d) :: r, ks => ∃ q v t, ks = (q, v) :: t ∧ k = kDat q ∧ Dat H d v ∧ DatKv H r t
end
mutual
theorem Dat.mono {H H' : Hp} (g : Same H H') : ∀ (d : PyData) (v : V), Dat H d v → Dat H' d v
  | .none, v, h => h
  | .bool b, v, h => h
  | .int i, v, h => h
  | .str x, v, h => h
  | .list ds, v, h => by
    simp only [Dat] at h ⊢
    obtain ⟨a, xs, e, h1, h2⟩ := h
    exact ⟨a, xs, e, g _ _ h1, DatAll.mono g ds xs h2⟩
  | .tuple ds, v, h => by
    simp only [Dat] at h ⊢
    obtain ⟨a, xs, e, h1, h2⟩ := h
    exact ⟨a, xs, e, g _ _ h1, DatAll.mono g ds xs h2⟩
  | .dict kvs, v, h => by
    simp only [Dat] at h ⊢
    obtain ⟨a, xs, e, h1, h2⟩ := h
    exact ⟨a, xs, e, g _ _ h1, DatKv.mono g kvs xs h2⟩
theorem DatAll.mono {H H' : Hp} (g : Same H H') : ∀ (ds : List PyData) (vs : List V), DatAll H ds vs → DatAll H' ds vs
  | [], vs, h => h
  | d :: ds, vs, h => by
    simp only [DatAll] at h ⊢
    obtain ⟨v, r, e, h1, h2⟩ := h
    exact ⟨v, r, e, Dat.mono g d v h1, DatAll.mono g ds r h2⟩
theorem DatKv.mono {H H' : Hp} (g : Same H H') : ∀ (kvs : List (PyData × PyData)) (ks : List (Key × V)), DatKv H kvs ks → DatKv H' kvs ks
  | [], ks, h => h
  | (k, d) :: r, ks, h => by
    simp only [DatKv] at h ⊢
    obtain ⟨q, v, t, e1, e2, h1, h2⟩ := h
    exact ⟨q, v, t, e1, e2, Dat.mono g d v h1, DatKv.mono g r t h2⟩
end
/-- the heap without the thing at w -/
def off (w : Addr) (H : Hp) : Hp := fun b => if b = w then none else H b
/-- the type's name of a thing -/
def tyName : PyData → String
  | .none => "NoneType"
  | .bool _ => "bool"
  | .int _ => "int"
  | .str _ => "str"
  | .list _ => "list"
  | .tuple _ => "tuple"
  | .dict _ => "dict"
section
variable {X : Cx} {pins : List (Addr × Obj)} {σ : St} {H : Hp} {s : Shared}
theorem Inv.nosys (I : Inv X pins σ H s) {a : Addr} {o : HO} (h : H a = some o) : a ≠ sysModules := fun e => by
  obtain ⟨mm, ob, es, ep, g, _⟩ := I.mod.sysm
  have := (I.bs _ _ g).2
  rw [← e, h] at this; cases this
theorem key_reads {P : Program} {w : World} {h : Heap} {q : Key} {v : Value} (e : (mixKind P w).is q v = true) : Reads h v (kDat q) [] := by
  rw [mixKind_is] at e
  rcases keyIs_shape e with ⟨i, t, rfl, rfl⟩ | ⟨x, t, rfl, rfl⟩
  · exact .int i t
  · exact .str x t
mutual
theorem Dat.reads (I : Inv X pins σ H s) : ∀ (d : PyData) (v : V) (u : Value), Dat H d v → RelV v u → ∃ as, Reads s.heap u d as ∧ sysModules ∉ as
  | .none, v, u, h, r => by
    simp only [Dat] at h; subst h; cases r; exact ⟨_, .none, by simp⟩
  | .bool b, v, u, h, r => by
    simp only [Dat] at h; subst h; cases r; exact ⟨_, .bool b, by simp⟩
  | .int i, v, u, h, r => by
    simp only [Dat] at h; subst h; obtain ⟨t, rfl⟩ := r; exact ⟨_, .int i t, by simp⟩
  | .str x, v, u, h, r => by
    simp only [Dat] at h; subst h; obtain ⟨t, rfl⟩ := r; exact ⟨_, .str x t, by simp⟩
  | .list ds, v, u, h, r => by
    simp only [Dat] at h
    obtain ⟨a, xs, rfl, hr, hd⟩ := h
    cases r
    obtain ⟨its, rv, ⟨o, n, e1, e2, _, e3⟩, _⟩ := I.list (SqL.of hr)
    obtain ⟨as, ra, na⟩ := DatAll.reads I ds xs its hd rv
    have ho := hr
    refine ⟨_, .list e1 e2 e3 (by simpa using ra), fun z => ?_⟩
    rcases List.mem_cons.mp z with z | z
    · exact I.nosys ho z.symm
    · exact na z
  | .tuple ds, v, u, h, r => by
    simp only [Dat] at h
    obtain ⟨a, xs, rfl, hr, hd⟩ := h
    cases r
    obtain ⟨its, rv, ⟨o, e1, e2, n, e3⟩, _⟩ := I.tuple (SqT.of hr)
    obtain ⟨as, ra, na⟩ := DatAll.reads I ds xs its hd rv
    exact ⟨_, .tuple e1 e2 e3 (by simpa using ra), na⟩
  | .dict kvs, v, u, h, r => by
    simp only [Dat] at h
    obtain ⟨a, ks, rfl, hr, hd⟩ := h
    cases r
    obtain ⟨_, _, vs, rel, o, es, ep, e1, ex, e3, _, pr, _⟩ := dk_of I.hok hr
    obtain ⟨as, bs, ra, rb, na, nb⟩ := DatKv.reads I kvs ks vs es.toList hd rel pr
    have ho := hr
    refine ⟨_, .dict e1 ex.1 e3 ra rb, fun z => ?_⟩
    rcases List.mem_append.mp z with z | z
    · rcases List.mem_cons.mp z with z | z
      · exact I.nosys ho z.symm
      · exact na z
    · exact nb z
theorem DatAll.reads (I : Inv X pins σ H s) : ∀ (ds : List PyData) (vs : List V) (us : List Value), DatAll H ds vs → Vals vs us → ∃ as, ReadsAll s.heap us ds as ∧ sysModules ∉ as
  | [], vs, us, h, r => by
    simp only [DatAll] at h; subst h; cases r; exact ⟨_, .nil, by simp⟩
  | d :: ds, vs, us, h, r => by
    simp only [DatAll] at h
    obtain ⟨v, t, rfl, h1, h2⟩ := h
    cases r with
    | cons r1 r2 =>
      obtain ⟨as, ra, na⟩ := Dat.reads I d v _ h1 r1
      obtain ⟨bs, rb, nb⟩ := DatAll.reads I ds t _ h2 r2
      exact ⟨_, .cons ra rb, fun z => (List.mem_append.mp z).elim na nb⟩
theorem DatKv.reads (I : Inv X pins σ H s) : ∀ (kvs : List (PyData × PyData)) (ks : List (Key × V)) (vs : List (Key × Value)) (es : List DictEntry), DatKv H kvs ks → KV ks vs → Pairs (mixKind X.prog X.w) es vs →
    ∃ as bs, ReadsAll s.heap (es.map (·.key)) (kvs.map (·.1)) as ∧ ReadsAll s.heap (es.map (·.val)) (kvs.map (·.2)) bs ∧ sysModules ∉ as ∧ sysModules ∉ bs
  | [], ks, vs, es, h, r, p => by
    simp only [DatKv] at h; subst h; cases r; cases p; exact ⟨_, _, .nil, .nil, by simp, by simp⟩
  | (k, d) :: kr, ks, vs, es, h, r, p => by
    simp only [DatKv] at h
    obtain ⟨q, v, t, rfl, rfl, h1, h2⟩ := h
    cases r with
    | cons r1 r2 =>
      cases p with
      | cons p1 p2 p3 =>
        obtain ⟨rk, rv⟩ := r1
        obtain ⟨as, bs, ra, rb, na, nb⟩ := DatKv.reads I kr t _ _ h2 r2 p3
        obtain ⟨cs, rc, nc⟩ := Dat.reads I d v _ h1 rv
        have rk' : q = _ := rk
        subst rk'
        have kd := key_reads (h := s.heap) p1
        refine ⟨[] ++ as, cs ++ bs, .cons kd ra, .cons (by dsimp only; rw [p2]; exact rc) rb, by simpa using na, fun z => (List.mem_append.mp z).elim nc nb⟩
end
end
end L2

set_option Elab.async false
set_option linter.all false
set_option maxRecDepth 100000
set_option maxHeartbeats 2000000
namespace L2
open PySem PySem.Spec PyProof.Rows
section
variable {X : Cx}
/-! ### == and != of things -/
def rEqD (neg : Bool) : R2 := fun x y H Q => ∃ d e, Dat H d x ∧ Dat H e y ∧ d.canLay0 = true ∧ e.canLay0 = true ∧ d.depth ≤ 60 ∧ Q (.bl (if neg then !PyData.eqv d e else PyData.eqv d e)) H
theorem op_eqD (hu : X.A.units + 64 < cLine) : OpR X (compareOp .Eq) (rEqD false) := by
  intro pins s σ H x y v u Q I rx ry h
  obtain ⟨d, e, hd, he, cd, ce, dp, q⟩ := h
  obtain ⟨as, ra, _⟩ := Dat.reads I d x _ hd rx
  obtain ⟨bs, rb, _⟩ := Dat.reads I e y _ he ry
  exact PySem.SeqAt.compareEq_reads ra rb cd ce (by omega) ⟨.bl _, H, I, rfl, q⟩
theorem op_neD (hu : X.A.units + 64 < cLine) : OpR X (compareOp .NotEq) (rEqD true) := by
  intro pins s σ H x y v u Q I rx ry h
  obtain ⟨d, e, hd, he, cd, ce, dp, q⟩ := h
  obtain ⟨as, ra, _⟩ := Dat.reads I d x _ hd rx
  obtain ⟨bs, rb, _⟩ := Dat.reads I e y _ he ry
  exact PySem.SeqAt.compareNe_reads ra rb cd ce (by omega) ⟨.bl _, H, I, rfl, q⟩
/-! ### products of great numbers -/
theorem bits_le {i : Int} (h : i.natAbs < 2 ^ 4000) : Builtin.Int.intBits i ≤ 2 ^ 20 := by
  have : Builtin.Int.intBits i ≤ 4000 := by
    unfold Builtin.Int.intBits
    by_cases c : i = 0
    · simp [c]
    · rw [if_neg (by simpa using c)]
      have h4 : i.natAbs ≠ 0 := fun z => c (Int.natAbs_eq_zero.mp z)
      exact (Nat.log2_lt h4).mpr h
  have e : (4000 : Nat) ≤ 2 ^ 20 := by decide
  omega
theorem op_mulB : OpR X (binaryOp .Mult) (rI (fun i j => i.natAbs < 2 ^ 4000 ∧ j.natAbs < 2 ^ 4000) fun i j => .int (i * j)) := opI fun _ _ _ _ _ _ _ hc q => mul_int q (IntMulOk.of_bits (bits_le hc.1) (bits_le hc.2))
/-! ### xs[::-1] -/
/-! ### x.index(y) of texts -/
end
end L2

set_option Elab.async false
set_option linter.all false
set_option maxRecDepth 100000
set_option maxHeartbeats 2000000
namespace L2
open PySem PySem.Spec PyProof.Rows
/-! ### enumerate of a list -/
def Iten (K : PySem.W.Frag) (a : Addr) : It :=
  ⟨fun i H => ∃ xs x, SqL K H a xs ∧ xs[i]? = some x, fun i H x H' => ∃ p y, H p = none ∧ x = .ref p ∧ H' = upd H p (.tup [.int i, y]) ∧ ∀ xs, SqL K H a xs → xs[i]? = some y, fun i H => ∃ xs, SqL K H a xs ∧ xs.length ≤ i⟩
def iEnum (K : PySem.W.Frag) (ta : TA) : TI := fun σ H R => ta σ H fun vs H1 => ∃ a, vs = [.ref a] ∧ (∃ xs, SqL K H1 a xs) ∧ R (Iten K a) H1
end L2

set_option Elab.async false
set_option linter.all false
set_option maxRecDepth 100000
set_option maxHeartbeats 2000000
namespace L2
open PySem PySem.Spec PyProof.Rows
section
variable {prog : Program} {w : World} {κ : Type} [DecidableEq κ] {knd : HeapKind prog w κ} {A : Around} {E : Value → Shared → Prop} {s : Shared}
theorem setHashed_heap {d a : Addr} {xs : List (κ × Addr × Value)} {k : κ} {v : Value} {Q : Unit → Shared → Prop} (hu : knd.room A) (hkey : knd.is s.heap k a) (hm : s.heap.DictOfH knd d xs)
    (hQ : ∀ h', h'.DictOfH knd d (storedH xs k a v) → Heap.SameBut d s.heap h' → Q () { s with heap := h' })
    (hsz : xs.length ≤ sizeLine) :
    wpAny (model prog w) A (dictSetHashed d (.ref a) (knd.hash k) v) Q E s := by
  obtain ⟨o, es, ep, ho, hc, hd, he, his, hn⟩ := hm
  unfold dictSetHashed
  try with_reducible refine wpAny_holding ?_
  refine wpAny_bind (wpAny_dictFind_heap hu hkey ho hd he his hn ?_ ?_)
  · intro hno
    have hnot : k ∉ xs.map (·.1) := not_mem_keys_of_get hno
    refine wpAny_bind (wpAny_rule (wpAny_updateDictKeys (hz := by have e := size_of_entries he; omega) ho hd (hQ _ ⟨_, _, ep + 1, Heap.get?_update_self _ ho (Obj.isFreed_of_dict (Obj.data_mapDictKeys hd _)),
      hc.mapDictKeys _, Obj.data_mapDictKeys hd _, ?_, ?_, ?_⟩ (Heap.SameBut.update ..))))
    · rw [storedH_new (atKey_none_of_get hno)]
      simp [he, entryOfKey]
    · rw [storedH_new (atKey_none_of_get hno)]
      intro x hx
      rcases List.mem_append.mp hx with hx | hx
      · exact knd.keeps (his x hx) ho hd (Heap.SameBut.update ..)
      · simp only [List.mem_singleton] at hx
        subst hx
        exact knd.keeps hkey ho hd (Heap.SameBut.update ..)
    · rw [storedH_new (atKey_none_of_get hno)]
      rw [List.map_append, List.nodup_append]
      refine ⟨hn, by simp, ?_⟩
      intro x hx y hy
      simp only [List.map_cons, List.map_nil, List.mem_singleton] at hy
      subst hy
      exact fun e => hnot (e ▸ hx)
  · intro j p hj
    refine wpAny_bind (wpAny_rule (wpAny_bind (wpAny_updateDict ho hd (wpAny_point (hQ _ ⟨_, _, ep, Heap.get?_update_self _ ho (Obj.isFreed_of_dict (Obj.data_mapDict hd _)),
      hc.mapDict _, Obj.data_mapDict hd _, ?_, ?_, ?_⟩ (Heap.SameBut.update ..))))))
    · rw [storedH_old (atKey_of_get hn hj)]
      have := modify_map_putAt (entryOfKey knd) (fun e : DictEntry => { e with val := v }) k v (fun _ _ => rfl) hn hj
      rw [← he] at this
      obtain ⟨l⟩ := es
      simpa using this
    · rw [storedH_old (atKey_of_get hn hj)]
      intro x hx
      obtain ⟨y, hy, rfl⟩ := List.mem_map.mp hx
      unfold putAt
      split <;> exact knd.keeps (his y hy) ho hd (Heap.SameBut.update ..)
    · rw [storedH_old (atKey_of_get hn hj)]
      rw [keys_map_putAt]; exact hn
def mergedH (xs more : List (κ × Addr × Value)) : List (κ × Addr × Value) := more.foldl (fun acc x => storedH acc x.1 x.2.1 x.2.2) xs
theorem mergedH_take (xs more : List (κ × Addr × Value)) (i : Nat) (x : κ × Addr × Value) (h : more[i]? = some x) : mergedH xs (more.take (i + 1)) = storedH (mergedH xs (more.take i)) x.1 x.2.1 x.2.2 := by
  unfold mergedH
  rw [List.take_add_one, h, List.foldl_append]; rfl
theorem storedH_len (xs : List (κ × Addr × Value)) (k : κ) (a : Addr) (v : Value) : (storedH xs k a v).length ≤ xs.length + 1 := by
  unfold storedH; split <;> simp
theorem mergedH_len : ∀ (more xs : List (κ × Addr × Value)), (mergedH xs more).length ≤ xs.length + more.length
  | [], xs => by show xs.length ≤ xs.length + 0; omega
  | p :: r, xs => by
    have h1 := mergedH_len r (storedH xs p.1 p.2.1 p.2.2)
    have h2 := storedH_len xs p.1 p.2.1 p.2.2
    show (mergedH (storedH xs p.1 p.2.1 p.2.2) r).length ≤ _
    rw [List.length_cons]; omega
theorem mergeDict_heap {nm : String} {d o : Addr} {xs more : List (κ × Addr × Value)} {Q : Unit → Shared → Prop} (hu : knd.room A) (hdo : d ≠ o) (hoS : (o == sysModules) = false)
    (hd : s.heap.DictOfH knd d xs) (ho : s.heap.DictOfH knd o more) (hne : xs ≠ [])
    (hQ : ∀ h', h'.DictOfH knd d (mergedH xs more) → Heap.SameBut d s.heap h' → Q () { s with heap := h' })
    (hsz : xs.length + more.length ≤ sizeLine) :
    wpAny (model prog w) A (Builtin.Dict.mergeDict nm d o) Q E s := by
  obtain ⟨od, esd, epd, hod, hcd, hdd, hpd, hid, hnd⟩ := id hd
  obtain ⟨oo, eso, epo, hoo, hco, hdo', hpo, hio, hno⟩ := id ho
  unfold Builtin.Dict.mergeDict
  rw [if_neg (by simpa using hdo)]
  unfold Builtin.Dict.showsAll
  rw [if_neg (by rw [hoS]; exact Bool.false_ne_true)]
  refine wpAny_bind (wpAny_pure ?_)
  refine wpAny_bind (wpAny_dictEntries hoo hdo' ?_)
  have hlen : more.length = eso.size := (size_of_entries hpo).symm
  have loop : wpAny (model prog w) A (do
      let epoch ← dictEpoch o
      let l ← dictEntries o
      forIn [:l.size] PUnit.unit fun i (_ : PUnit) => (do
          let l' ← dictEntries o
          match l'[i]? with
            | some e => do
              holding [e.key, e.val] (dictSetHashed d e.key e.hash e.val)
              let ep' ← dictEpoch o
              if (ep' != epoch) = true then do
                  (unsupported (toString nm ++ toString ":source-changed-during-callback") : Sem PUnit)
                  pure (ForInStep.yield PUnit.unit)
                else pure (ForInStep.yield PUnit.unit)
            | _ => do
              (unsupported "internal:dict-merge" : Sem PUnit)
              pure (ForInStep.yield PUnit.unit) : Sem (ForInStep PUnit))
      pure ()) Q E s := by
    refine wpAny_bind (wpAny_dictEpoch hoo hdo' ?_)
    refine wpAny_bind (wpAny_dictEntries hoo hdo' ?_)
    refine wpAny_bind ?_
    rw [Std.Legacy.Range.forIn_eq_forIn_range']
    simp only [Std.Legacy.Range.size, Nat.sub_zero, Nat.add_sub_cancel, Nat.div_one]
    refine wpAny_forIn_list _
      (fun rest _ s' => ∃ h' i, s' = { s with heap := h' } ∧ rest = List.range' i (eso.size - i) ∧ i ≤ eso.size ∧ h'.DictOfH knd d (mergedH xs (more.take i)) ∧ h'.get? o = some oo ∧ Heap.SameBut d s.heap h')
      _ ?_ ?_ _ _ ⟨s.heap, 0, rfl, by simp, Nat.zero_le _, by simpa [mergedH] using hd, hoo, Heap.SameBut.refl _ _⟩
    · rintro x rest b s' ⟨h', i, rfl, hr, hi, hd', hoo', hs'⟩
      have hlt : i < eso.size := by
        rcases Nat.lt_or_ge i eso.size with h | h
        · exact h
        · rw [Nat.sub_eq_zero_of_le h] at hr; simp at hr
      obtain ⟨rfl, hrest⟩ : x = i ∧ rest = List.range' (i + 1) (eso.size - (i + 1)) := by
        have e : eso.size - i = (eso.size - (i + 1)) + 1 := by omega
        rw [e, List.range'_succ] at hr
        injection hr with h1 h2
        exact ⟨h1, h2⟩
      refine wpAny_bind (wpAny_dictEntries hoo' hdo' ?_)
      obtain ⟨⟨k, a, v⟩, hkv⟩ : ∃ kv, more[x]? = some kv := ⟨more[x]'(by rw [hlen]; exact hlt), List.getElem?_eq_getElem _⟩
      rw [entry_at hpo x, hkv]
      have hkey : knd.is h' k a := knd.keeps (hio _ (List.mem_of_getElem? hkv)) hod hdd hs'
      show wpAny _ _ (holding [Value.ref a, v] (dictSetHashed d (.ref a) (knd.hash k) v) >>= _) _ _ _
      have hmx : (mergedH xs (more.take x)).length ≤ sizeLine := by
        have e1 := mergedH_len (more.take x) xs
        have e2 : (more.take x).length ≤ more.length := by rw [List.length_take]; omega
        omega
      refine wpAny_bind (wpAny_holding (setHashed_heap (hsz := hmx) hu hkey hd' fun h'' hd'' hs'' => ?_))
      have hoo'' : h''.get? o = some oo := (hs''.2 o (Ne.symm hdo)).trans hoo'
      refine wpAny_bind (wpAny_dictEpoch hoo'' hdo' ?_)
      rw [if_neg (by simp)]
      exact wpAny_pure ⟨h'', x + 1, rfl, hrest, hlt, by rw [mergedH_take xs more x (k, a, v) hkv]; exact hd'', hoo'', hs'.trans hs''⟩
    · rintro b s' ⟨h', i, rfl, hr, hi, hd', hoo', hs'⟩
      have hin : i = eso.size := by
        rcases Nat.lt_or_ge i eso.size with h | h
        · have e : eso.size - i = (eso.size - (i + 1)) + 1 := by omega
          rw [e, List.range'_succ] at hr; exact nomatch hr
        · exact Nat.le_antisymm hi h
      refine wpAny_pure (hQ h' ?_ hs')
      rw [hin, ← hlen, List.take_length] at hd'; exact hd'
  dsimp only
  split
  · refine wpAny_bind (wpAny_dictEntries hod hdd ?_)
    split
    · rename_i hemp
      exfalso
      have h0 : esd = #[] := Array.isEmpty_iff.mp hemp
      have h1 := size_of_entries hpd
      rw [h0] at h1
      exact hne (List.length_eq_zero_iff.mp h1.symm)
    · exact loop
  · exact loop
theorem meetsH_dict_update (d o : Addr) (hdo : d ≠ o) (hoS : (o == sysModules) = false) :
    MeetsIn prog w (Builtin.«dict.update» ⟨[.ref d, .ref o], []⟩) (fun A R s => ∃ xs more, knd.room A.in1 ∧ s.heap.DictOfH knd d xs ∧ s.heap.DictOfH knd o more ∧ xs ≠ [] ∧ xs.length + more.length ≤ sizeLine ∧
      ∀ h', h'.DictOfH knd d (mergedH xs more) → Heap.SameBut d s.heap h' → R (.ok (.ret .none)) { s with heap := h' }) :=
  .of_wp fun A R s ⟨xs, more, hu, hd, ho, hne, hsz, h⟩ => by
    unfold Builtin.«dict.update»
    refine wpAny_bind ?_
    unfold Builtin.Dict.selfAndRest
    refine wpAny_bind (wpAny_notOrdered_dict hd.typeIs ?_)
    show wpAny _ _ (pure (d, [Value.ref o])) _ _ s
    refine wpAny_pure ?_
    show wpAny _ _ (Builtin.Dict.updateFrom "dict.update" d (.ref o) [] .none) _ _ s
    unfold Builtin.Dict.updateFrom
    refine wpAny_bind (wpAny_typeOf ho.typeIs ?_)
    rw [if_neg (by decide)]
    refine wpAny_bind ?_
    unfold Builtin.Dict.merge
    refine wpAny_bind ?_
    unfold Builtin.Dict.readDirectly
    refine wpAny_bind (wpAny_isInstance ho.typeIs isSubtype_dict_dict ?_)
    simp only [Bool.not_true, Bool.false_eq_true, if_false]
    refine wpAny_bind (wpAny_specialOf ho.typeIs PySem.F.slot_dict_iter.lookup (wpAny_pure ?_))
    simp only [beq_self_eq_true, if_true]
    refine wpAny_bind (wpAny_pure ?_)
    refine mergeDict_heap (hsz := hsz) hu hdo hoS hd ho hne fun h' hd' hs' => ?_
    show wpAny _ _ (Builtin.Dict.addKeywords d [] >>= _) _ _ _
    exact wpAny_bind (wpAny_pure (wpAny_pure ⟨_, rfl, h h' hd' hs'⟩))
end
end L2

set_option Elab.async false
set_option linter.all false
set_option maxRecDepth 100000
set_option maxHeartbeats 2000000
namespace L2
open PySem PySem.Spec PyProof.Rows
/-! ### d.update(e) of dicts with tuple keys -/
def mergeT (kvs more : List (List Key × V)) : List (List Key × V) := more.foldl (fun acc kv => putK acc kv.1 kv.2) kvs
theorem mergeT_len : ∀ (more kvs : List (List Key × V)), (mergeT kvs more).length ≤ kvs.length + more.length
  | [], kvs => by show kvs.length ≤ kvs.length + 0; omega
  | p :: r, kvs => by
    have h1 := mergeT_len r (putK kvs p.1 p.2)
    have h2 := length_putK kvs p.1 p.2
    show (mergeT (putK kvs p.1 p.2) r).length ≤ _
    rw [List.length_cons]; omega
theorem KT.merge {H : Hp} {more : List (List Key × V)} {ys : List (List Key × Addr × Value)} (r : KT H more ys) : ∀ {kvs : List (List Key × V)} {xs : List (List Key × Addr × Value)}, KT H kvs xs → KT H (mergeT kvs more) (mergedH xs ys) := by
  unfold KT at r
  induction r with
  | nil => intro kvs xs q; exact q
  | @cons p q ps qs h t ih =>
    intro kvs xs r0
    obtain ⟨h1, h2, h3⟩ := h
    have z := KT.put r0 p.1 h2 h3
    have z2 := ih z
    show KT H (mergeT (putK kvs p.1 p.2) ps) (mergedH (storedH xs q.1 q.2.1 q.2.2) qs)
    rw [← h1]; exact z2
def rDUpd : V → List V → Hp → VK → Prop := fun x xs H Q => ∃ a b kvs more, x = .ref a ∧ xs = [.ref b] ∧ H a = some (.dT kvs) ∧ H b = some (.dT more) ∧ a ≠ b ∧ kvs ≠ [] ∧ kvs.length + more.length ≤ sizeLine ∧ Q .non (upd H a (.dT (mergeT kvs more)))
theorem mt_dupd {X : Cx} (hu : X.A.units + 1 < cLine) : MtM X "dict.update" rDUpd := by
  intro pins s σ H x vs v us Q I rx rv h
  obtain ⟨a, b, kvs, more, rfl, rfl, e, e', hab, hne, hz, q⟩ := h
  cases rx
  obtain ⟨u, rfl, ru⟩ := rv.one
  cases ru
  obtain ⟨z, hd, xs, rel, dd⟩ := dt_of I.hok e
  obtain ⟨z', hd', ys, rel', dd'⟩ := dt_of I.hok e'
  have lx := Paired.length rel
  have ly := Paired.length rel'
  refine call_meetsIn PySem.F.slot_dict_update dd.typeIs PySem.F.entry_dict_update (PySem.F.args_dict_update_2 _ _) (meetsH_dict_update (knd := tupleKind (mixKind X.prog X.w)) a b hab hd') ⟨xs, ys, tupleKind_room_in1 hu, dd, dd', ?_, by omega, fun h' dn hs => ?_⟩
  · intro q; subst q; exact hne (List.length_eq_zero_iff.mp lx)
  obtain ⟨q1, es, ep, hq, h2, h3, h4, _, h5⟩ := dn
  have hl := mergeT_len more kvs
  refine ⟨.non, _, d_write (t' := s.toks) (ob := .dT (mergeT kvs more)) I (by rw [e]; exact True.intro) hs ⟨q1, hq⟩ ⟨by omega, hd, _, (KT.merge rel' rel).keeps fun c ys ec => ?_, q1, es, ep, hq, h2, h3, h4, h5⟩, rfl, q⟩
  rw [upd_ne (ne_of ec e (fun z => nomatch z))]
  exact ec
/-! ### d.clear() -/
def rDClr : V → List V → Hp → VK → Prop := fun x xs H Q => ∃ a kvs, x = .ref a ∧ xs = [] ∧ H a = some (.dT kvs) ∧ Q .non (upd H a (.dT []))
/-! ### == and != of dicts with tuple keys -/
section
variable {prog : Program} {w : World} {κ : Type} [DecidableEq κ] {knd : HeapKind prog w κ} {A : Around} {E : Value → Shared → Prop} {s : Shared}
/-- all that ka says, kb says too -/
inductive HitsH (A : Around) (s : Shared) (kb : List (κ × Addr × Value)) : List (κ × Addr × Value) → Bool → Prop
  | nil : HitsH A s kb [] true
  | miss {k : κ} {a : Addr} {v : Value} {r : List (κ × Addr × Value)} : atKey kb k = none → HitsH A s kb ((k, a, v) :: r) false
  | hit {k : κ} {a c : Addr} {v y : Value} {r : List (κ × Addr × Value)} {e b : Bool} : atKey kb k = some (c, y) → SeqAt.EqAt A s v y e → HitsH A s kb r b → HitsH A s kb ((k, a, v) :: r) (e && b)
end
end L2

set_option Elab.async false
set_option linter.all false
set_option maxRecDepth 100000
set_option maxHeartbeats 2000000
namespace L2
open PySem PySem.Spec PyProof.Rows
/-- all that the pairs say, kb says too: one after another, to the first that it does not -/
inductive HitsV (K : PySem.W.Frag) (H : Hp) (n : Nat) (kb : List (List Key × V)) : List (List Key × V) → Bool → Prop
  | nil : HitsV K H n kb [] true
  | miss {k : List Key} {v : V} {r : List (List Key × V)} : valV kb k = none → HitsV K H n kb ((k, v) :: r) false
  | hit {k : List Key} {v y : V} {r : List (List Key × V)} {e b : Bool} : valV kb k = some y → EqR K H n v y e → HitsV K H n kb r b → HitsV K H n kb ((k, v) :: r) (e && b)
def rEqT (K : PySem.W.Frag) (neg : Bool) : R2 := fun x y H Q => ∃ n a b ka kb r, n ≤ 60 ∧ x = .ref a ∧ y = .ref b ∧ H a = some (.dT ka) ∧ H b = some (.dT kb) ∧ (ka.length = kb.length → HitsV K H n kb ka r) ∧
  Q (.bl (if neg then !(ka.length == kb.length && r) else (ka.length == kb.length && r))) H
end L2

set_option Elab.async false
set_option linter.all false
set_option maxRecDepth 100000
set_option maxHeartbeats 2000000
namespace L2
open PySem PySem.Spec PyProof.Rows
section
variable {prog : Program} {w : World} {κ : Type} [DecidableEq κ] {knd : HeapKind prog w κ} {A : Around} {E : Value → Shared → Prop}
theorem DictOfH.at {h : Heap} {d : Addr} {xs : List (κ × Addr × Value)} (m : h.DictOfH knd d xs) : ∃ o es ep, h.get? d = some o ∧ o.data = .dict es ep := let ⟨o, es, ep, h1, _, h2, _⟩ := m; ⟨o, es, ep, h1, h2⟩
theorem storeAll_heap {d : Addr} (hu : knd.room A) : ∀ (xs acc : List (κ × Addr × Value)) (s : Shared) (Q : PUnit → Shared → Prop), (∀ x ∈ xs, knd.is s.heap x.1 x.2.1) → s.heap.DictOfH knd d acc → acc.length + xs.length ≤ sizeLine →
    (∀ h' t', h'.DictOfH knd d (mergedH acc xs) → Heap.SameBut d s.heap h' → Q PUnit.unit { s with heap := h', toks := t' }) →
    wpAny (model prog w) A (forIn (xs.map fun x => (Value.ref x.2.1, x.2.2)) PUnit.unit fun (x : Value × Value) (_ : PUnit) => (do dictSet d x.1 x.2; pure (ForInStep.yield PUnit.unit) : Sem (ForInStep PUnit))) Q E s
  | [], acc, s, Q, _, hm, _, hQ => by
    rw [List.map_nil, List.forIn_nil]
    exact wpAny_pure (hQ s.heap s.toks hm (Heap.SameBut.refl _ _))
  | (k, a, v) :: xs, acc, s, Q, hk, hm, hsz, hQ => by
    rw [List.length_cons] at hsz
    rw [List.map_cons, List.forIn_cons]
    obtain ⟨o, es, ep, ho, hd⟩ := DictOfH.at hm
    refine wpAny_bind (wpAny_bind (wpAny_dictSet_heap (hsz := by omega) hu (hk _ (List.mem_cons_self ..)) hm fun h₁ hm₁ hs₁ => wpAny_pure ?_))
    refine storeAll_heap hu xs (storedH acc k a v) _ Q (fun x hx => knd.keeps (hk x (List.mem_cons_of_mem _ hx)) ho hd hs₁) hm₁ (by have e := storedH_len acc k a v; omega) fun h' t' hm' hs' => ?_
    exact hQ h' t' hm' (hs₁.trans hs')
variable {s : Shared}
theorem subDict_heap {pairs : List (Sem Value × Sem Value)} {Q : Addr → Shared → Prop} (hu : knd.room A) (hlen : pairs.length ≤ 15)
    (h : wpAny (model prog w) A (evalPairs pairs) (fun vs s₁ => ∃ xs : List (κ × Addr × Value), vs = xs.map (fun x => (Value.ref x.2.1, x.2.2)) ∧ xs.length ≤ 15 ∧ (∀ x ∈ xs, knd.is s₁.heap x.1 x.2.1) ∧ s₁.heap.DictOfH knd s.heap.objs.size [] ∧
      ∀ h' t', h'.DictOfH knd s.heap.objs.size (mergedH [] xs) → Heap.SameBut s.heap.objs.size s₁.heap h' → Q s.heap.objs.size { s₁ with heap := h', toks := t' }) E
      { s with heap := s.heap.push { cls := .type "dict", data := .dict #[] } }) :
    wpAny (model prog w) A (subDict pairs) Q E s := by
  unfold subDict
  refine wpAny_bind (wpAny_alloc ?_)
  refine wpAny_bind (wpAny_holding ?_)
  rw [if_pos hlen]
  refine wpAny_bind (wpAny_mono h (fun vs s₁ h₁ => ?_) fun _ _ e => e)
  obtain ⟨xs, rfl, hx, hk, hm, hQ⟩ := h₁
  have hsz : ([] : List (κ × Addr × Value)).length + xs.length ≤ sizeLine := by
    rw [sizeLine_eq, List.length_nil]; omega
  refine wpAny_holding ?_
  refine wpAny_bind (storeAll_heap (knd := knd) hu xs [] s₁ _ hk hm hsz fun h' t' hm' hs' => wpAny_pure (wpAny_pure (hQ h' t' hm' hs')))
theorem Dict_heap {env : Env} {keys : List (Option Expr)} {values : List Expr} {pos : Pos} {Q : Value → Shared → Prop} (hu : knd.room A)
    (hall : keys.all (·.isSome) = true) (hl : keys.length = values.length) (h0 : keys ≠ []) (hlen : keys.length ≤ 15)
    (h : wpAny (model prog w) A (evalPairs (pairTrees keys values env pos)) (fun vs s₁ => ∃ xs : List (κ × Addr × Value), vs = xs.map (fun x => (Value.ref x.2.1, x.2.2)) ∧ xs.length ≤ 15 ∧ (∀ x ∈ xs, knd.is s₁.heap x.1 x.2.1) ∧ s₁.heap.DictOfH knd s.heap.objs.size [] ∧
      ∀ h' t', h'.DictOfH knd s.heap.objs.size (mergedH [] xs) → Heap.SameBut s.heap.objs.size s₁.heap h' → Q (.ref s.heap.objs.size) { s₁ with heap := h', toks := t' }) E
      { s with heap := s.heap.push { cls := .type "dict", data := .dict #[] } }) :
    wpAny (model prog w) A (eval (.Dict keys values pos) env) Q E s := by
  have hn := pairTrees_length keys values env pos hall hl
  have hne : pairTrees keys values env pos ≠ [] := by
    intro he
    rw [he] at hn
    exact h0 (List.length_eq_zero_iff.mp hn.symm)
  rw [arm_eval_Dict, zip_pairTrees keys values env pos hall hl, dictDisplay_pairs _ hne (by omega)]
  exact wpAny_bind (wpAny_standAt (wpAny_bind (subDict_heap (knd := knd) (Q := fun d s' => wpAny (model prog w) A (pure (Value.ref d)) Q E s') hu (by omega)
    (wpAny_mono h (fun vs s₁ h₁ => by obtain ⟨xs, h1, h2, h3, h4, hq⟩ := h₁; exact ⟨xs, h1, h2, h3, h4, fun h' t' a b => wpAny_pure (hq h' t' a b)⟩) fun _ _ e => e))))
end
/-- {(..): v, ..}: the keys are tracked tuples -/
def tDispT (trs : List (TE × TE)) : TE := fun σ H Q => ∀ p, H p = none → tPairs trs σ (upd H p (.dT [])) fun ps H2 => H2 p = some (.dT []) ∧ ∃ bs : List (Addr × List Key × V), ps = bs.map (fun b => (V.ref b.1, b.2.2)) ∧ (∀ b ∈ bs, H2 b.1 = some (.tup (b.2.1.map kV))) ∧ bs.length ≤ 15 ∧
  Q (.ref p) (upd H2 p (.dT (mergeT [] (bs.map (·.2)))))
theorem carryT {H : Hp} : ∀ {bs : List (Addr × List Key × V)} {ws : List (Value × Value)}, VV (bs.map fun b => (V.ref b.1, b.2.2)) ws → (∀ b ∈ bs, H b.1 = some (.tup (b.2.1.map kV))) → ∃ xs : List (List Key × Addr × Value), ws = xs.map (fun x => (Value.ref x.2.1, x.2.2)) ∧ KT H (bs.map (·.2)) xs
  | [], _, r, _ => by rw [List.map_nil] at r; cases r; exact ⟨[], rfl, .nil⟩
  | (a, k, v) :: bs, _, r, hk => by
    rw [List.map_cons] at r
    cases r with
    | @cons x y as cs h t =>
      obtain ⟨xs, e, q⟩ := carryT t (fun b hb => hk b (List.mem_cons_of_mem _ hb))
      obtain ⟨y1, y2⟩ := y
      obtain ⟨h1, h2⟩ := h
      have e1 : y1 = Value.ref a := h1
      subst e1
      refine ⟨(k, a, y2) :: xs, by rw [e]; rfl, .cons ⟨rfl, hk _ (List.mem_cons_self ..), h2⟩ q⟩
theorem pe_dispT {X : Cx} {pos : Pos} {keys : List (Option Expr)} {values : List Expr} {trs : List (TE × TE)} (hu : X.A.units + 1 < cLine) (h : PPs X pos keys values trs) (hall : keys.all (·.isSome) = true := by rfl) (hl : keys.length = values.length := by rfl) (h0 : keys ≠ [] := by simp)
    (h15 : keys.length ≤ 15 := by decide) : PE X (.Dict keys values pos) (tDispT trs) := by
  intro pins s σ H Q I q
  have hn := I.hok.fresh (Nat.le_refl s.heap.objs.size)
  have I1 := I.laid (a := s.heap.objs.size) (o := .dT []) (h' := s.heap.push { cls := .type "dict", data := .dict #[] }) (t' := s.toks) (fun _ _ q => Heap.get?_push_of_some _ q) (Nat.le_refl _) (dt_empty s.heap I.big)
  have hr : (tupleKind (mixKind X.prog X.w)).room X.A := by show X.A.units < cLine; omega
  refine Dict_heap (knd := tupleKind (mixKind X.prog X.w)) hr hall hl h0 h15 (thn (h pins _ σ _ _ I1 (q _ hn)) fun ws s2 ⟨ps, H2, I2, rel, e, bs, ep, hk, lk, q2⟩ => ?_)
  subst ep
  obtain ⟨xs, ew, rk⟩ := carryT rel hk
  obtain ⟨z, hd, vs0, r0, dd⟩ := dt_of I2.hok e
  cases r0
  have lx := Paired.length rk
  rw [List.length_map] at lx
  refine ⟨xs, ew, by omega, fun x hx => ?_, dd, fun h' t' dd' hs => ⟨.ref s.heap.objs.size, _, ?_, rfl, q2⟩⟩
  · have all : ∀ {l : List (List Key × V)} {m : List (List Key × Addr × Value)}, KT H2 l m → ∀ x ∈ m, (tupleKind (mixKind X.prog X.w)).is s2.heap x.1 x.2.1 := by
      intro l m q
      induction q with
      | nil => intro x hx; exact nomatch hx
      | @cons p q ps qs hq t ih =>
        intro x hx
        rcases List.mem_cons.mp hx with e | hx
        · subst e
          exact key_of I2.hok (by rw [← hq.1]; exact hq.2.1)
        · exact ih x hx
    exact all rk x hx
  · have hz : (mergeT [] (bs.map (·.2))).length ≤ sizeLine := by
      have h1 := mergeT_len (bs.map (·.2)) []
      rw [List.length_nil, List.length_map] at h1
      rw [sizeLine_eq]; omega
    obtain ⟨q1, es, ep, hq, h2, h3, h4, _, h5⟩ := dd'
    refine d_write (ob := .dT (mergeT [] (bs.map (·.2)))) I2 (by rw [e]; exact True.intro) hs ⟨q1, hq⟩ ⟨hz, hd, _, (KT.merge rk .nil).keeps fun c ys ec => ?_, q1, es, ep, hq, h2, h3, h4, h5⟩
    rw [upd_ne (ne_of ec e (fun z => nomatch z))]
    exact ec
end L2

set_option Elab.async false
set_option linter.all false
set_option maxRecDepth 100000
set_option maxHeartbeats 2000000
namespace L2
open PySem PySem.Spec PyProof.Rows
/-! ### a dict is known to its object while it is walked -/
theorem Inv.retype {X : Cx} {pins : List (Addr × Obj)} {σ : St} {H : Hp} {s : Shared} {a : Addr} {u u' : HO} (I : Inv X pins σ H s) (e : H a = some u) (n1 : ∀ xs, u ≠ .tup xs) (n2 : ∀ ps, u ≠ .tbl ps) (n3 : ∀ y, u ≠ .own y) (hf : ∀ o v, X.H₀ a ≠ some (.frz o v))
    (new : ObjOk X.prog X.w H s.heap a u') : Inv X pins σ (upd H a u') s := by
  have nt : ∀ c xs, H c = some (.tup xs) → c ≠ a := fun c xs q z => by rw [z, e] at q; injection q with q; exact n1 _ q
  have no : ∀ c y, H c = some (.own y) → c ≠ a := fun c y q z => by rw [z, e] at q; injection q with q; exact n3 _ q
  have nn : ∀ c, H c = none → c ≠ a := fun c q z => by rw [z, e] at q; cases q
  refine ⟨I.ok, I.os, I.bare, ⟨I.base.keep, I.base.slot, fun b ob q n hx => ?_, I.base.there, fun b xs q => ?_, fun b ob xs q => ?_, fun b ps q => ?_⟩, I.loc, I.cell, ?_, fun x c q => ?_, fun p hp => ?_, fun b v q => ?_, I.len⟩
  · have z := I.base.free b ob q n hx
    rw [upd_ne (nn b z)]; exact z
  · have z := I.base.tups b xs q
    rw [upd_ne (nt b xs z)]; exact z
  · have z := I.base.frzs b ob xs q
    have nb : b ≠ a := fun y => hf ob xs (by rw [← y]; exact q)
    rw [upd_ne nb]; exact z
  · obtain ⟨m, z⟩ := I.base.tbls b ps q
    have nb : b ≠ a := fun y => by rw [y, e] at z; injection z with z; exact n2 _ z
    exact ⟨m, by rw [upd_ne nb]; exact z⟩
  · rw [upd_ne (nn _ I.free)]; exact I.free
  · rw [upd_ne (nn _ (I.freeC x c q))]; exact I.freeC x c q
  · obtain ⟨h1, h2, h3⟩ := I.pin p hp
    exact ⟨h1, by rw [upd_ne (nn _ h2)]; exact h2, h3⟩
  · by_cases hb : b = a
    · subst hb; rw [upd_same] at q; cases q
      exact new.stay (fun c v _ q => q) (fun c q => by rw [upd_ne (no c _ q)]; exact q) fun c xs q => by rw [upd_ne (nt c xs q)]; exact q
    · rw [upd_ne hb] at q
      exact (I.hok b v q).stay (fun c v _ q => q) (fun c q => by rw [upd_ne (no c _ q)]; exact q) fun c xs q => by rw [upd_ne (nt c xs q)]; exact q
/-- the expression is reckoned while the dict is known to its object -/
def tFrz (t : TE) : TE := fun σ H Q => ∃ d kvs, H d = some (.dT kvs) ∧ ∀ o, t σ (upd H d (.frz o (.dT kvs))) fun v H' => H' d = some (.frz o (.dT kvs)) ∧ Q v (upd H' d (.dT kvs))
theorem pe_frz {X : Cx} {e : Expr} {t : TE} (he : PE X e t) : PE X e (tFrz t) := by
  intro pins s σ H Q I h
  obtain ⟨d, kvs, ed, h⟩ := h
  have hf : ∀ o v, X.H₀ d ≠ some (.frz o v) := fun o v q => by
    have z := I.base.frzs d o v q
    rw [ed] at z; cases z
  obtain ⟨z, hd, xs, rel, o, es, ep, ho, c⟩ := (show ObjOk X.prog X.w H s.heap d (.dT kvs) from I.hok d _ ed)
  have I1 : Inv X pins σ (upd H d (.frz o (.dT kvs))) s := I.retype ed (fun _ z => nomatch z) (fun _ z => nomatch z) (fun _ z => nomatch z) hf ⟨ho, I.hok d _ ed⟩
  refine thn (he pins s σ _ _ I1 (h o)) fun u s1 ⟨v, H1, I2, r, e1, q⟩ => ⟨v, upd H1 d (.dT kvs), ?_, r, q⟩
  exact I2.retype e1 (fun _ z => nomatch z) (fun _ z => nomatch z) (fun _ z => nomatch z) hf (show ObjOk X.prog X.w H1 s1.heap d (.frz o (.dT kvs)) from I2.hok d _ e1).2
/-! ### the keys of a dict, one after another -/
section
variable {prog : Program} {w : World} {A : Around} {E : Value → Shared → Prop} {s : Shared}
theorem iter_raw {d : Addr} {o : Obj} {es : Array DictEntry} {ep : Nat} {Q : Value → Shared → Prop} (hd : (d == sysModules) = false) (ho : s.heap.get? d = some o) (hc : o.ExactDict) (hdat : o.data = .dict es ep)
    (hQ : Q (.ref s.heap.objs.size) { s with heap := s.heap.push { cls := .type "dict_keyiterator", data := .fields #[.ref d, .int 0 0, .int es.size 0, .int ep 0] } }) :
    wpAny (model prog w) A (pyIter (.ref d)) Q E s := by
  have hT : s.TypeIs (.ref d) "dict" := ⟨o, ho, hc.1⟩
  refine wpAny_pyIter_slot hT F.slot_dict_iter (wpAny_call_entry F.slot_dict_iter hT F.entry_dict_iter ?_ (F.args_dict_iter_1 _))
  unfold Builtin.«dict.__iter__»
  refine wpAny_bind ?_
  unfold Builtin.Dict.dictSlotNone
  refine wpAny_bind (wpAny_notOrdered_dict hT ?_)
  show wpAny _ _ (pure (Value.ref d)) _ _ s
  refine wpAny_pure ?_
  show wpAny _ _ (Builtin.Dict.showsAll d >>= _) _ _ s
  unfold Builtin.Dict.showsAll
  rw [if_neg (by rw [hd]; exact Bool.false_ne_true)]
  refine wpAny_bind (wpAny_pure ?_)
  refine wpAny_bind (wpAny_dictEntries ho hdat ?_)
  refine wpAny_bind (wpAny_dictEpoch ho hdat ?_)
  refine wpAny_bind (wpAny_newObj_type (wpAny_pure ⟨_, rfl, "dict_keyiterator", _, ⟨_, Heap.get?_push_size _ rfl, rfl⟩, F.slot_dict_keyiterator_next.lookup, ?_⟩))
  simpa [rawInt] using hQ
theorem next_key {it d : Addr} {i n ep : Nat} {o : Obj} {es : Array DictEntry} {e : DictEntry} {Q : Option Value → Shared → Prop} (hit : s.heap.IsKeyIter it d i n ep) (hod : s.heap.get? d = some o) (hdd : o.data = .dict es ep) (hsz : es.size = n) (hx : es[i]? = some e)
    (hQ : ∀ h', h'.IsKeyIter it d (i + 1) n ep → Heap.SameBut it s.heap h' → Q (some e.key) { s with heap := h' }) :
    wpAny (model prog w) A (pyNext (.ref it)) Q E s := by
  obtain ⟨oi, ho, hc, hd⟩ := id hit
  unfold pyNext
  refine wpAny_bind (wpAny_attempt (wpAny_callSpecial?_slot (name := Str.ofString "__next__") hit.typeIs F.slot_dict_keyiterator_next
    (wpAny_call_entry F.slot_dict_keyiterator_next hit.typeIs F.entry_dict_keyiterator_next ?_ (F.args_dict_keyiterator_next_1 _))))
  refine wpAny_bind (wpAny_pure ?_)
  refine wpAny_bind ?_
  refine wpAny_bind ?_
  first | refine wpAny_bind (wpAny_typeNameOfWhole_keyiter hit.typeIs (wpAny_pure ?_)) | refine wpAny_bind (wpAny_typeNameOf_keyiter hit.typeIs (wpAny_pure ?_))
  refine wpAny_bind (wpAny_fieldsOf ho hd ?_)
  have hown : Builtin.Dict_items.ownsTuple "dict_keyiterator" = false := by decide
  simp only [hown, Bool.false_eq_true, if_false]
  show wpAny _ _ (if (Value.ref d == Value.none) = true then _ else _) _ _ s
  rw [if_neg (show ¬ ((Value.ref d == Value.none) = true) from Bool.false_ne_true)]
  refine wpAny_bind (wpAny_pure ?_)
  refine wpAny_bind (wpAny_dictEntries hod hdd ?_)
  rw [if_neg (by rw [hsz]; simp)]
  refine wpAny_bind (wpAny_pure ?_)
  refine wpAny_bind (wpAny_dictEpoch hod hdd ?_)
  rw [if_neg (by simp)]
  refine wpAny_pure ?_
  simp only [show ¬ ((i : Int) < 0) from by omega, if_false, Int.toNat_natCast, hx]
  refine wpAny_bind ?_
  first | refine wpAny_bind (wpAny_typeNameOfWhole_keyiter hit.typeIs (wpAny_pure ?_)) | refine wpAny_bind (wpAny_typeNameOf_keyiter hit.typeIs (wpAny_pure ?_))
  refine wpAny_bind (wpAny_isOneOf_keyiter hit.typeIs ?_)
  show wpAny _ _ (setField (.ref it) 1 (rawInt ((i : Int) + 1)) >>= _) _ _ s
  refine wpAny_bind (wpAny_setField ho hd (by simp) ?_)
  have hit' : (s.heap.update it (Obj.mapFields (·.setIfInBounds 1 (rawInt ((i : Int) + 1))))).IsKeyIter it d (i + 1) n ep :=
    ⟨_, Heap.get?_update_self _ ho (Obj.isFreed_of_fields (Obj.data_mapFields hd _)), (Obj.cls_mapFields ..).trans hc, by rw [Obj.data_mapFields hd]; simp [rawInt]⟩
  refine wpAny_bind (wpAny_holding ?_)
  refine wpAny_bind (wpAny_isOneOf_keyiter (s := { s with heap := s.heap.update it (Obj.mapFields (·.setIfInBounds 1 (rawInt ((i : Int) + 1)))) }) hit'.typeIs ?_)
  show wpAny _ _ (pure e.key) _ _ _
  exact wpAny_pure (wpAny_pure ⟨_, rfl, wpAny_pure (hQ _ hit' (Heap.SameBut.update ..))⟩)
theorem next_end {it d : Addr} {i n ep : Nat} {o : Obj} {es : Array DictEntry} {Q : Option Value → Shared → Prop} (hh : A.handled = none) (hit : s.heap.IsKeyIter it d i n ep) (hod : s.heap.get? d = some o) (hdd : o.data = .dict es ep) (hsz : es.size = n) (hge : es.size ≤ i)
    (hQ : ∀ h', Heap.ExtBut it s.heap h' → Q none { s with heap := h' }) : wpAny (model prog w) A (pyNext (.ref it)) Q E s := by
  obtain ⟨oi, ho, hc, hd⟩ := id hit
  unfold pyNext
  refine wpAny_bind (wpAny_attempt (wpAny_callSpecial?_slot (name := Str.ofString "__next__") hit.typeIs F.slot_dict_keyiterator_next
    (wpAny_call_entry F.slot_dict_keyiterator_next hit.typeIs F.entry_dict_keyiterator_next ?_ (F.args_dict_keyiterator_next_1 _))))
  refine wpAny_bind (wpAny_pure ?_)
  refine wpAny_bind ?_
  refine wpAny_bind ?_
  first | refine wpAny_bind (wpAny_typeNameOfWhole_keyiter hit.typeIs (wpAny_pure ?_)) | refine wpAny_bind (wpAny_typeNameOf_keyiter hit.typeIs (wpAny_pure ?_))
  refine wpAny_bind (wpAny_fieldsOf ho hd ?_)
  have hown : Builtin.Dict_items.ownsTuple "dict_keyiterator" = false := by decide
  simp only [hown, Bool.false_eq_true, if_false]
  show wpAny _ _ (if (Value.ref d == Value.none) = true then _ else _) _ _ s
  rw [if_neg (show ¬ ((Value.ref d == Value.none) = true) from Bool.false_ne_true)]
  refine wpAny_bind (wpAny_pure ?_)
  refine wpAny_bind (wpAny_dictEntries hod hdd ?_)
  rw [if_neg (by rw [hsz]; simp)]
  refine wpAny_bind (wpAny_pure ?_)
  refine wpAny_bind (wpAny_dictEpoch hod hdd ?_)
  rw [if_neg (by simp)]
  refine wpAny_pure ?_
  simp only [show ¬ ((i : Int) < 0) from by omega, if_false, Int.toNat_natCast, Array.getElem?_eq_none hge]
  refine wpAny_bind ?_
  first | refine wpAny_bind (wpAny_typeNameOfWhole_keyiter hit.typeIs (wpAny_pure ?_)) | refine wpAny_bind (wpAny_typeNameOf_keyiter hit.typeIs (wpAny_pure ?_))
  show wpAny _ _ (setField (.ref it) 0 .none >>= _) _ _ s
  refine wpAny_bind (wpAny_setField ho hd (by simp) ?_)
  show wpAny _ _ (newExc (.type "StopIteration") [] >>= _) _ _ _
  refine wpAny_bind ?_
  simp only [newExc, newTuple]
  refine wpAny_bind (wpAny_newObj_type ?_ (by size_fits))
  refine wpAny_bind (m := firstArgMember _ _) (wpAny_of_eq (a := Value.none) (by first | rfl | (simp only [firstArgMember]; rfl)) ?_)
  refine wpAny_newObj_type ?_ (by size_fits)
  simp only [raiseNew]
  refine wpAny_bind (wpAny_handled ?_)
  rw [show A.in1.handled = none from hh]
  refine wpAny_bind (wpAny_pure (wpAny_throw ?_))
  refine wpAny_bind (wpAny_isInstance (T := "StopIteration") (b := true) ⟨_, Heap.get?_push_size _ rfl, rfl⟩ isSubtype_stop ?_)
  exact wpAny_pure (hQ _ (((Heap.SameBut.update ..).extBut.push _).push _))
end
def Itk (d : Addr) (o : Obj) (kvs : List (List Key × V)) : It :=
  ⟨fun i H => H d = some (.frz o (.dT kvs)) ∧ i < kvs.length, fun i H x H' => ∃ b, x = .ref b ∧ H' = H ∧ ∀ kv, kvs[i]? = some kv → H b = some (.tup (kv.1.map kV)), fun i H => H d = some (.frz o (.dT kvs)) ∧ kvs.length ≤ i⟩
theorem Paired.nth {α β : Type} {R : α → β → Prop} : ∀ {l : List α} {m : List β}, Paired R l m → ∀ (i : Nat) (x : α) (y : β), l[i]? = some x → m[i]? = some y → R x y
  | _, _, .nil, i, x, y, h, _ => by simp at h
  | _, _, .cons r t, 0, x, y, h, h' => by simp at h h'; subst h h'; exact r
  | _, _, .cons r t, i + 1, x, y, h, h' => Paired.nth t i x y (by simpa using h) (by simpa using h')
theorem frz_dT {P : Program} {w : World} {H : Hp} {h : Heap} {d : Addr} {o : Obj} {es : Array DictEntry} {ep : Nat} {kvs : List (List Key × V)} (ok : HOk P w H h) (e : H d = some (.frz o (.dT kvs))) (hd : o.data = .dict es ep) :
    h.get? d = some o ∧ o.ExactDict ∧ (d == sysModules) = false ∧ es.size = kvs.length ∧ ∃ xs, KT H kvs xs ∧ es.toList = xs.map (entryOfKey (tupleKind (mixKind P w))) := by
  obtain ⟨ho, z, hs, xs, rel, o2, es2, ep2, ho2, c, dat, l, nd⟩ := (show ObjOk P w H h d (.frz o (.dT kvs)) from ok d _ e)
  rw [ho] at ho2; cases ho2
  rw [hd] at dat; cases dat
  exact ⟨ho, c, hs, by rw [size_of_entries l, ← Paired.length rel], xs, rel, l⟩
theorem turn_keys {P : Program} {w : World} {K : PySem.W.Frag} {tg : Expr} (d it : Addr) (o : Obj) (kvs : List (List Key × V)) (es : Array DictEntry) (ep : Nat) (hd : o.data = .dict es ep) : Turn P w K tg (Itk d o kvs) [it] it (fun i h => h.IsKeyIter it d i kvs.length ep) where
  mem := by simp
  obj := fun i h st b hb => by
    have e : b = it := by simpa using hb
    subst e
    obtain ⟨o, e, c, d⟩ := st
    exact ⟨o, e, fun v z => by rw [d] at z; cases z⟩
  keep := fun i h h' st k => by
    obtain ⟨o, e, r⟩ := st
    exact ⟨o, k it (by simp) o e, r⟩
  item := by
    intro X hP hw hK hc i pins s σ H E I hf st hg
    subst hP hw hK
    obtain ⟨e, hlt⟩ := hg
    obtain ⟨ho, _, _, hsz, xs, rel, l⟩ := frz_dT I.hok e hd
    obtain ⟨f0, f1, f2, f3, f4, f5⟩ := hf it (by simp)
    have lx := Paired.length rel
    have hx : xs[i]? = some xs[i] := List.getElem?_eq_getElem (by omega)
    refine next_key st ho hd hsz (e := entryOfKey (tupleKind (mixKind X.prog X.w)) xs[i]) (by rw [entry_at l i, hx]; rfl) fun h' st' sb => ?_
    have I1 : Inv X pins σ H { s with heap := h' } := I.turned (t' := s.toks) (fun b o hb e => (sb.2 b hb).trans e) f0 f1 f3 f4 f5
    obtain ⟨oi, e1, c1, d1⟩ := id st'
    refine ⟨_, rfl, go_of (s := { s with heap := h' }) e1 c1 d1 (by decide) ⟨.ref xs[i].2.1, H, I1, rfl, ⟨_, rfl, rfl, fun kv hkv => ?_⟩, st', fun b hb => (hf b hb).1⟩⟩
    exact (Paired.nth rel i kv _ hkv hx).2.1
  done := by
    intro X hP hw hK hc i pins s σ H E I hf st hg
    subst hP hw hK
    obtain ⟨e, hge⟩ := hg
    obtain ⟨ho, _, _, hsz, xs, rel, l⟩ := frz_dT I.hok e hd
    obtain ⟨f0, f1, f2, f3, f4, f5⟩ := hf it (by simp)
    exact next_end (I.ok.hd hc) st ho hd hsz (by omega) fun h' eb => ⟨rfl, I.turned (t' := s.toks) (fun b o hb e => eb b o hb e) f0 f1 f3 f4 f5⟩
  self := fun _ _ _ _ _ st h => wpAny_pyIter_keyiter st h
def iKeys (tl : TE) : TI := fun σ H R => tl σ H fun x H1 => ∃ d o kvs, x = .ref d ∧ H1 d = some (.frz o (.dT kvs)) ∧ R (Itk d o kvs) H1
theorem pi_keys {X : Cx} {tg l : Expr} {tl : TE} (hl : PE X l tl) : PI X tg l (iKeys tl) := by
  intro pins s σ H R I h
  refine thn (hl pins s σ H _ I h) fun v s1 ⟨x, H1, I1, r1, q1⟩ => ?_
  obtain ⟨d, o, kvs, e, hq, q⟩ := q1
  subst e
  cases r1
  obtain ⟨ho, z, hs, xs, rel, o2, es, ep, ho2, c, dat, _⟩ := (show ObjOk X.prog X.w H1 s1.heap d (.frz o (.dT kvs)) from I1.hok d _ hq)
  rw [ho] at ho2; cases ho2
  obtain ⟨_, _, _, hsz, _⟩ := frz_dT I1.hok hq dat
  refine iter_raw hs ho c dat ?_
  refine ⟨s1.heap.objs.size, [s1.heap.objs.size], _, _, H1, rfl, I1.kept (t' := s1.toks) fun b o e => Heap.get?_push_of_some _ e, turn_keys d _ o kvs es ep dat, ⟨_, Heap.get?_push_size _ rfl, rfl, by rw [hsz]; rfl⟩, fun b hb => ?_, q⟩
  have e : b = s1.heap.objs.size := by simpa using hb
  subst e
  exact I1.fpOk (Nat.le_refl _) (I1.hok.fresh (Nat.le_refl _))
end L2

set_option Elab.async false
set_option linter.all false
set_option maxRecDepth 100000
set_option maxHeartbeats 2000000
namespace L2
open PySem PySem.Spec PyProof.Rows PySem.W
/-! ### d.values(), list of it -/
section
variable {prog : Program} {w : World} {A : Around} {E : Value → Shared → Prop} {s : Shared}
end
/-- the values' view of the dict at d -/
def viewV (p d : Addr) : HO := .ext fun h => h.get? p = some { cls := .type "dict_values", data := .fields #[.ref d] }
def rDVals : V → List V → Hp → VK → Prop := fun x xs H Q => ∃ a kvs, x = .ref a ∧ xs = [] ∧ H a = some (.dT kvs) ∧ ∀ p, H p = none → Q (.ref p) (upd H p (viewV p a))
end L2
namespace L2
theorem u1 {a : Nat} (h : a + 64 < PySem.cLine) : a + 1 < PySem.cLine := by omega
end L2

set_option Elab.async false
set_option linter.all false
set_option maxRecDepth 100000
set_option maxHeartbeats 2000000
namespace L2
open PySem PySem.Spec PyProof.Rows
/-! ### a list is parted over names -/
section
variable {prog : Program} {w : World} {A : Around} {E : Value → Shared → Prop} {s : Shared}
end
/-- (a, b, ..) = a list of that length -/
def gLst (K : PySem.W.Frag) (n : Nat) (t : TGs) : TG := fun v σ H Q => ∃ a xs, v = .ref a ∧ SqL K H a xs ∧ xs.length = n ∧ t xs σ H Q
end L2

set_option Elab.async false
set_option linter.all false
set_option maxRecDepth 100000
set_option maxHeartbeats 2000000
namespace L2
open PySem PySem.Spec PyProof.Rows
/-! ### a dict of the module, its keys ints and texts: it is read -/
def KD (P : Program) (w : World) (K : PySem.W.Frag) (a : Addr) (kvs : List (Key × V)) : Prop :=
  ∃ o es ep vs, K.lookup a = some o ∧ o.ExactDict ∧ o.data = .dict es ep ∧ KeysOf (mixKind P w) es ∧ Pairs (mixKind P w) es.toList vs ∧ (vs.map (·.1)).Nodup ∧ KV kvs vs
def tDGetK (kvs : List (Key × V)) (ty : TE) : TE := fun σ H Q => ty σ H fun y H2 => ∃ k v, y = kV k ∧ valV kvs k = some v ∧ Q v H2
end L2

set_option Elab.async false
set_option linter.all false
set_option maxRecDepth 100000
set_option maxHeartbeats 2000000
namespace L2
open PySem PySem.Spec PyProof.Rows
/-! ### walking a text -/
def Its (z : Str) : It :=
  ⟨fun i _ => i < z.cps.size, fun i H x H' => H' = H ∧ ∃ c, z.cps[i]? = some c ∧ x = .str ⟨#[c]⟩, fun i _ => z.cps.size ≤ i⟩
def iStr (tl : TE) : TI := fun σ H R => tl σ H fun x H1 => ∃ z, x = .str z ∧ z.cps.all (· < 128) = true ∧ R (Its z) H1
/-! ### a statement, with a word of what holds behind it -/
def tCut (t u : TS) : TS := fun D σ H => ∃ J : St → Hp → Prop, t { D with nx := J } σ H ∧ ∀ σ' H', J σ' H' → u D σ' H'
/-! ### is not, of truths -/
end L2

set_option Elab.async false
set_option linter.all false
set_option maxRecDepth 100000
set_option maxHeartbeats 2000000
namespace PySem
open Sem (wp)
namespace F
end F
section
variable {prog : Program} {w : World} {A : Around} {E : Value → Shared → Prop} {h : Heap} {g : Array GenState} {d : Drawn} {t : Nat} {os : OsState} {a : Addr} {vs : Array Value}
end
end PySem

namespace L2
open PySem PySem.Spec PyProof.Rows
/-! ### dict(enumerate(..)) -/
section
variable {prog : Program} {w : World} {A : Around} {E : Value → Shared → Prop} {s : Shared}
def EnO (h : Heap) (e it : Addr) (i : Int) (T : Addr) (f : Bool) (item : Value) : Prop :=
  h.get? e = some { cls := .type "enumerate", dict := none, data := .fields #[rawInt T, .bool f, .ref it, rawInt i, .none, item], slots := #[] }
/-- the enumerate object behind i steps -/
def EnSt (h : Heap) (e it d : Addr) (i : Nat) : Prop :=
  (∃ old, IsEnum h e it i old) ∨ ∃ T f item o, EnO h e it i T f item ∧ h.get? T = some o ∧ T ≠ e ∧ T ≠ it ∧ T ≠ d
def enPairs (items : List Value) : Nat → List (Key × Value)
  | 0 => []
  | n + 1 => enPairs items n ++ [(.inl (n : Int), items.getD n .none)]
end
def enKV (xs : List V) : Nat → List (Key × V)
  | 0 => []
  | n + 1 => enKV xs n ++ [(.inl (n : Int), xs.getD n .non)]
def tDictEnum (K : PySem.W.Frag) (ta : TA) : TE := fun σ H Q => ta σ H fun vs H1 => ∃ l xs, vs = [.ref l] ∧ SqL K H1 l xs ∧ xs.length ≤ 1000 ∧ ∀ d, H1 d = none → Q (.ref d) (upd H1 d (.dK (enKV xs xs.length)))
end L2

set_option Elab.async false
set_option linter.all false
set_option maxRecDepth 100000
set_option maxHeartbeats 2000000
namespace L2
open PySem PySem.Spec PyProof.Rows
/-! ### all of a list of truths; list of a text -/
end L2

set_option Elab.async false
set_option linter.all false
set_option maxRecDepth 100000
set_option maxHeartbeats 2000000
namespace L2
open PySem PySem.Spec PyProof.Rows
/-! ### a statement while the dict is known to its object -/
def sFrz (t : TS) : TS := fun D σ H => ∃ d kvs, H d = some (.dT kvs) ∧ ∀ o, t { nx := fun σ' H' => H' d = some (.frz o (.dT kvs)) ∧ D.nx σ' (upd H' d (.dT kvs)), rt := fun v H' => H' d = some (.frz o (.dT kvs)) ∧ D.rt v (upd H' d (.dT kvs)), bk := fun σ' H' => H' d = some (.frz o (.dT kvs)) ∧ D.bk σ' (upd H' d (.dT kvs)), ct := fun σ' H' => H' d = some (.frz o (.dT kvs)) ∧ D.ct σ' (upd H' d (.dT kvs)) } σ (upd H d (.frz o (.dT kvs)))
theorem ps_frz {X : Cx} {st : Stmt} {t : TS} (hs : PS X st t) : PS X st (sFrz t) := by
  intro pins s σ H D I h
  obtain ⟨d, kvs, ed, h⟩ := h
  have hf : ∀ o v, X.H₀ d ≠ some (.frz o v) := fun o v q => by
    have z := I.base.frzs d o v q
    rw [ed] at z; cases z
  obtain ⟨z, hd, xs, rel, o, es, ep, ho, c⟩ := (show ObjOk X.prog X.w H s.heap d (.dT kvs) from I.hok d _ ed)
  have I1 : Inv X pins σ (upd H d (.frz o (.dT kvs))) s := I.retype ed (fun _ z => nomatch z) (fun _ z => nomatch z) (fun _ z => nomatch z) hf ⟨ho, I.hok d _ ed⟩
  have back : ∀ {σ' : St} {H1 : Hp} {s1 : Shared}, Inv X pins σ' H1 s1 → H1 d = some (.frz o (.dT kvs)) → Inv X pins σ' (upd H1 d (.dT kvs)) s1 := fun {σ' H1 s1} I2 e1 =>
    I2.retype e1 (fun _ z => nomatch z) (fun _ z => nomatch z) (fun _ z => nomatch z) hf (show ObjOk X.prog X.w H1 s1.heap d (.frz o (.dT kvs)) from I2.hok d _ e1).2
  refine thn (hs pins s σ _ _ I1 (h o)) fun f s1 q => ?_
  cases f with
  | next => obtain ⟨σ', H', I2, e1, q⟩ := q; exact ⟨σ', _, back I2 e1, q⟩
  | brk => obtain ⟨σ', H', I2, e1, q⟩ := q; exact ⟨σ', _, back I2 e1, q⟩
  | cont => obtain ⟨σ', H', I2, e1, q⟩ := q; exact ⟨σ', _, back I2 e1, q⟩
  | ret u => obtain ⟨v, σ', H', I2, r, e1, q⟩ := q; exact ⟨v, σ', _, back I2 e1, r, q⟩
theorem for_keys {d : Addr} {o : Obj} {kvs : List (List Key × V)} {g : TG} {tb : TS} {D : Ends} {σ : St} {H : Hp} (Pv : Nat → St → Hp → Prop) (h0 : Pv 0 σ H) (hl : ∀ i σ H, i ≤ kvs.length → Pv i σ H → H d = some (.frz o (.dT kvs)))
    (hs : ∀ i kv b σ H, kvs[i]? = some kv → H b = some (.tup (kv.1.map kV)) → Pv i σ H → g (.ref b) σ H fun σ2 H2 => tb { D with nx := Pv (i + 1), ct := Pv (i + 1), bk := D.nx } σ2 H2) (hd : ∀ σ H, Pv kvs.length σ H → D.nx σ H) :
    ∃ W : Nat → Nat → St → Hp → Prop, (∃ m, W 0 m σ H) ∧ ∀ i m σ H, W i m σ H →
      ((Itk d o kvs).stop i H ∧ D.nx σ H) ∨ ((Itk d o kvs).go i H ∧ ∃ N : St → Hp → Prop, (∀ σ' H', N σ' H' → ∃ m', m' < m ∧ W (i + 1) m' σ' H') ∧ ∀ x H', (Itk d o kvs).yld i H x H' → g x σ H' fun σ2 H2 => tb { D with nx := N, ct := N, bk := D.nx } σ2 H2) := by
  refine ⟨fun i m σ H => m = kvs.length - i ∧ i ≤ kvs.length ∧ Pv i σ H, ⟨kvs.length, by simp, Nat.zero_le _, h0⟩, ?_⟩
  rintro i m σ H ⟨rfl, hi, p⟩
  have q := hl i σ H hi p
  by_cases hlt : i < kvs.length
  · refine .inr ⟨⟨q, hlt⟩, Pv (i + 1), fun σ' H' p' => ⟨kvs.length - (i + 1), by omega, rfl, hlt, p'⟩, fun x H' y => ?_⟩
    obtain ⟨b, e1, e2, y⟩ := y
    subst e1 e2
    have hx : kvs[i]? = some kvs[i] := List.getElem?_eq_getElem hlt
    exact hs i _ b σ _ hx (y _ hx) p
  · have e : i = kvs.length := by omega
    subst e
    exact .inl ⟨⟨q, Nat.le_refl _⟩, hd σ H p⟩
/-! ### sorted of a dict whose keys are pairs -/
theorem walks_keys {prog : Program} {w : World} {A : Around} (hh : A.handled = none) (I d : Addr) (hne : d ≠ I) (o : Obj) (es : Array DictEntry) (ep : Nat) (hdd : o.data = .dict es ep) :
    Walks prog w A I [I, d] [I] es.size (fun i v => ∃ e, es[i]? = some e ∧ v = e.key) (fun i h => h.IsKeyIter I d i es.size ep ∧ h.get? d = some o) where
  sub := fun b hb => by simp at hb; simp [hb]
  frame := fun _ _ _ st hk => ⟨by obtain ⟨o, e, r⟩ := st.1; exact ⟨o, hk I (by simp) o e, r⟩, hk d (by simp) o st.2⟩
  item := fun i s Q E hi st hQ => by
    have hx : es[i]? = some es[i] := Array.getElem?_eq_getElem hi
    refine next_key st.1 st.2 hdd rfl hx fun h' hit' hs' => ?_
    exact hQ _ h' s.toks ⟨_, hx, rfl⟩ ⟨hit', (hs'.2 d hne).trans st.2⟩ fun b o hb e => hs'.extBut b o (fun h => hb (by simp [h])) e
  done := fun s Q E st hQ => next_end hh st.1 st.2 hdd rfl (Nat.le_refl _) fun h' he' => hQ h' s.toks fun b o hb e => he' b o (fun h => hb (by simp [h])) e
  self := fun _ _ _ _ st hQ => wpAny_pyIter_keyiter st.1 hQ
theorem src_keysD {prog : Program} {w : World} {d : Addr} {o : Obj} {es : Array DictEntry} {ep : Nat} (hs : (d == sysModules) = false) (hx : o.ExactDict) (hdd : o.data = .dict es ep) : PySem.W.KdlSrc prog w "dict" d d es.size (fun i v => ∃ e, es[i]? = some e ∧ v = e.key) (fun h => h.get? d = some o) where
  type := fun _ hm => ⟨_, hm, hx.1⟩
  there := fun _ hm => ⟨Heap.lt_size hm, Heap.lt_size hm⟩
  keep := fun _ _ hm hk => hk d (.inl rfl) o hm
  notList := by decide
  notTuple := by decide
  hint := fun _ _ _ _ hm hq => PySem.W.kdl_hint_dict ⟨_, hm, hx.1⟩ hq
  iter := fun _ _ hh hm => ⟨_, _, (fun _ _ hq => iter_raw hs hm hx hdd hq), walks_keys hh _ d (Nat.ne_of_lt (Heap.lt_size hm)) o es ep hdd, ⟨⟨_, Heap.get?_push_size _ rfl, rfl, rfl⟩, Heap.get?_push_of_some _ hm⟩⟩
theorem keys_of {H : Hp} : ∀ {kvs : List (List Key × V)} {xs : List (List Key × Addr × Value)}, KT H kvs xs → ∀ {ps : List (Int × Int)}, kvs.map (·.1) = ps.map (fun p => [.inl p.1, .inl p.2]) → PairsIn H ps (xs.map fun x => V.ref x.2.1) ∧ Vals (xs.map fun x => V.ref x.2.1) (xs.map fun x => Value.ref x.2.1)
  | _, _, .nil, ps, h => by
    cases ps with
    | nil => exact ⟨.nil, .nil⟩
    | cons _ _ => simp at h
  | _, _, .cons (a := a) r t, ps, h => by
    cases ps with
    | nil => simp at h
    | cons p ps =>
      simp only [List.map_cons, List.cons.injEq] at h
      have ih := keys_of t h.2
      refine ⟨.cons ⟨_, rfl, ?_⟩ ih.1, .cons rfl ih.2⟩
      have := r.2.1
      rw [h.1] at this
      exact this
theorem call_sortedD {X : Cx} (hx : X.ex = []) (hc : X.calm = true) : CallR X (.builtin "sorted") (fun xs H Q => ∃ dd kvs ps, xs = [.ref dd] ∧ H dd = some (.dT kvs) ∧ kvs.map (·.1) = ps.map (fun p => [.inl p.1, .inl p.2]) ∧ ps.length < 64 ∧ Fine ps ∧
    ∀ q qs vs', H q = none → qs.Perm ps → (qs.map pkey).Pairwise (· < ·) → PairsIn H qs vs' → Q (.ref q) (upd H q (.lst vs'))) := by
  intro pins s σ H xs us Q I r h
  obtain ⟨dd, kvs, ps, rfl, hH, hks, h64, fine, q⟩ := h
  obtain ⟨u, rfl, ru⟩ := vals1 r
  cases ru
  obtain ⟨zz, hsys, ys, rel, o, es, ep, ho, cx, dat, l, nd⟩ := (show ObjOk X.prog X.w H s.heap dd (.dT kvs) from I.hok dd _ hH)
  have ly := Paired.length rel
  have hsz : es.size = ys.length := size_of_entries l
  obtain ⟨hp, rv⟩ := keys_of rel hks
  have lps : ps.length = kvs.length := by have := congrArg List.length hks; simpa using this.symm
  generalize hvs : (ys.map fun x => V.ref x.2.1) = vs at hp rv
  generalize hits : (ys.map fun x => Value.ref x.2.1) = its at rv
  have hli : its.length = ys.length := by rw [← hits, List.length_map]
  have hl : vs.length = its.length := rv.length
  have hlen : ps.length = vs.length := Paired.length hp
  have z : vs.length ≤ sizeLine := by omega
  obtain ⟨m, F⟩ := I.fr
  refine PySem.W.kdu_sorted (src_keysD hsys cx dat) (I.ok.hd hc) F (news := allNews X.base s.heap X.env.locals) news_all ho (by rw [hsz]; omega) ?_
  intro D h1 tk0 ws F1 N1 hD hwl hwP
  have ew : ws = its := by
    refine List.ext_getElem? fun i => ?_
    by_cases hi : i < ys.length
    · have hi' : i < ws.length := by omega
      obtain ⟨en, e2, e3⟩ := hwP i _ (List.getElem?_eq_getElem hi')
      rw [entry_at l i, List.getElem?_eq_getElem hi] at e2
      have e2 : entryOfKey (tupleKind (mixKind X.prog X.w)) ys[i] = en := Option.some.inj e2
      rw [List.getElem?_eq_getElem hi', e3, ← hits, List.getElem?_map, List.getElem?_eq_getElem hi, ← e2]
      rfl
    · rw [List.getElem?_eq_none (by omega), List.getElem?_eq_none (by omega)]
  subst ew
  have nD0 := N1 (D, _) List.mem_cons_self
  have keptG : ∀ {g : Heap} {o1 : Obj}, Fr X.base X.env.locals g m → News X.base X.env.locals g ((D, o1) :: allNews X.base s.heap X.env.locals) → ∀ b o, b ≠ X.env.locals → s.heap.get? b = some o → g.get? b = some o := fun {g o1} Fg Ng b o hb q => by
    cases w : X.base.get? b with
    | some u =>
      have := F.keep b u w
      rw [q] at this; cases this
      exact Fg.keep b _ w
    | none => exact (Ng (b, o) (List.mem_cons_of_mem _ (mem_allNews hb w q))).1
  have fresh : s.heap.get? D = none := by
    cases g : s.heap.get? D with
    | none => rfl
    | some o => exact absurd (hD (D, o) (mem_allNews nD0.2.1 nD0.2.2 g)) (Nat.lt_irrefl _)
  have neL : ∀ b o, H b = some o → b ≠ X.env.locals := fun b o e z => by rw [z, I.free] at e; cases e
  have fin : ∀ (pm : Array Nat) (h'' : Heap) (c : Nat), Fr X.base X.env.locals h'' m → News X.base X.env.locals h'' ((D, seqObj "list" (List.toArray (pm.toList.map fun i => ws.getD i .none)) c) :: allNews X.base s.heap X.env.locals) → pm.toList.Perm (List.range ws.length) → Srt.Up (fun i => pkey (ps.getD i (0, 0))) pm ws.length → EP X pins σ Q (.ref D) { s with heap := h'', toks := tk0 } := by
    intro pm h'' c F'' N'' so1' so2
    have ml : pm.toList.length = ws.length := by rw [so1'.length_eq]; simp
    have mem : ∀ i ∈ pm.toList, i < ws.length := fun i hi => List.mem_range.mp (so1'.mem_iff.mp hi)
    have kp := keptG F'' N''
    have gD := (N'' (D, _) List.mem_cons_self).1
    have I1 : Inv X pins σ H { s with heap := h'', toks := tk0 } := by
      refine I.step (g' := s.gens) (d' := s.drawn) (t' := tk0) (ch := []) (fun _ z => nomatch z) (fun b o hb _ _ e _ => kp b o hb e) (fun b o hb _ _ e _ => ⟨o.slots, kp b o hb e⟩) (fun _ _ _ _ n => n) (fun b o _ e => ?_) (fun _ _ e => e) (fun _ _ _ e => e) (fun b ps e => ⟨#[], by rw [e]; simp⟩) (fun m' hm => ?_) (fun b u e => ?_) I.bare
      · by_cases hb : b = X.env.locals
        · obtain ⟨o', _, _, g, _⟩ := F''.ns
          exact ⟨o', by rw [hb]; exact g⟩
        · exact ⟨o, kp b o hb e⟩
      · have : m' = m := by
          obtain ⟨o1, es1, ep1, g1, d1, _, f1⟩ := hm
          obtain ⟨o2, es2, ep2, g2, d2, _, f2⟩ := F.ns
          rw [g1] at g2; cases g2
          rw [d1] at d2; cases d2
          funext x
          rw [← f1 x, ← f2 x]
        rw [this]; exact F''.ns
      · refine (I.hok b u e).stay (fun c' v hc q => kp c' v ?_ q) (fun _ q => q) fun _ _ q => q
        rcases hc with rfl | hc
        · exact neL _ _ e
        · exact neL _ _ hc
    have hnD : H D = none := by
      cases g : H D with
      | none => rfl
      | some o =>
        obtain ⟨u, hu⟩ := (I.hok D o g).get
        rw [fresh] at hu; cases hu
    have vv : Vals (pm.toList.map fun i => vs.getD i .non) (pm.toList.map fun i => ws.getD i .none) := paired_map fun i hi => vals_getD rv (by have := mem i hi; omega)
    have I2 := I1.adopt2 (o := .lst (pm.toList.map fun i => vs.getD i .non)) hnD (fun u hu => by
        obtain ⟨o', q⟩ := I.base.there D u hu (by rw [hx]; simp)
        rw [fresh] at q; cases q) nD0.2.1 (fun x c e z => by
        obtain ⟨v, o, ho, _⟩ := I.cell x c e
        rw [z, fresh] at ho; cases ho) (fun p hp z => by
        have := (I.pin p hp).1
        rw [z, fresh] at this; cases this) ⟨(by rw [List.length_map, ml]; omega), _, c, vv, gD⟩
    refine ⟨.ref D, _, I2, rfl, q D (pm.toList.map fun i => ps.getD i (0, 0)) _ hnD ?_ ?_ (paired_map fun i hi => pairs_getD hp (by have := mem i hi; omega))⟩
    · have := so1'.map fun i => ps.getD i (0, 0)
      rw [show ws.length = ps.length by omega, getD_map_range] at this
      exact this
    · rw [List.map_map, List.pairwise_iff_getElem]
      intro i j hi hj hij
      rw [List.length_map] at hi hj
      have := so2 i j hij (by omega)
      unfold Srt.kp at this
      have gi : pm.getD i 0 = pm.toList[i] := by rw [Array.getD_eq_getD_getElem?]; simp at hi; simp [hi]
      have gj : pm.getD j 0 = pm.toList[j] := by rw [Array.getD_eq_getD_getElem?]; simp at hj; simp [hj]
      rw [gi, gj] at this
      simpa using this
  by_cases h2 : ws.length < 2
  · have e0 : (pairsOf ws).map (·.2) = ws.toArray := by
      match ws, h2 with
      | [], _ => simp [pairsOf]
      | [v], _ => simp [pairsOf]
    have gD0 : h1.get? D = some (seqObj "list" ws.toArray 0) := nD0.1
    refine wpAny_call_entry slot_list_sort ⟨_, gD0, rfl⟩ entry_list_sort (Srt.small_tree (s := { s with heap := h1, toks := tk0 }) gD0 h2 ⟨_, rfl, ?_⟩) (args_list_sort _)
    rw [e0]
    obtain ⟨c, hc'⟩ := sortedHeap_at (out := ws.toArray) gD0
    have old : ∀ b o, b ≠ D → h1.get? b = some o → (sortedHeap h1 D ws ws.toArray).get? b = some o := fun b o hb q => (sortedHeap_old hb (Heap.lt_size q)).trans q
    refine fin (List.toArray (List.range ws.length)) _ c ?_ ?_ (by simp) (fun i j h1 h2 => by omega)
    · obtain ⟨⟨oL, es', ep', g1, r1⟩, kb, ab⟩ := F1
      exact ⟨⟨oL, es', ep', old _ _ (Ne.symm nD0.2.1) g1, r1⟩, fun b o e => old _ _ (fun z => by rw [z, nD0.2.2] at e; cases e) (kb b o e), ab⟩
    · intro p hp
      rcases List.mem_cons.mp hp with e | hp
      · subst e
        refine ⟨?_, nD0.2.1, nD0.2.2⟩
        show (sortedHeap h1 D ws ws.toArray).get? D = _
        rw [hc']
        congr 2
        show ws.toArray = List.toArray ((List.range ws.length).map fun i => ws.getD i .none)
        rw [getD_map_range]
      · have := N1 p (List.mem_cons_of_mem _ hp)
        exact ⟨old _ _ (Nat.ne_of_lt (hD p hp)) this.1, this.2⟩
  · refine PySem.W.kat_lsort (A := X.A.in1) (s := { s with heap := h1, toks := tk0 }) F1 N1 (vs := ws) (PySem.W.UpdF.head fun p hp => Nat.ne_of_lt (hD p hp)) (by simp) (by omega) (by omega) ?_
    intro e1 h' F' N'
    have tk : ∀ a (p : Int × Int), H a = some (.tup [.int p.1, .int p.2]) → ∃ o k t1 t2, h'.get? a = some o ∧ o.cls = .type "tuple" ∧ o.data = .seq #[.int p.1 t1, .int p.2 t2] k := fun a p ha => by
      obtain ⟨_, its', r', o, g1, g2, k, g3⟩ := I.hok a _ ha
      obtain ⟨u1, u2, rfl, ⟨t1, rfl⟩, ⟨t2, rfl⟩⟩ := vals2 r'
      exact ⟨o, k, t1, t2, keptG F' N' a o (neL a _ ha) g1, g2, g3⟩
    obtain ⟨fs, t1, t2, t3⟩ := firsts_of tk hp rv
    refine PySem.W.kat_kind (s := { s with heap := h', toks := tk0 }) (T := .type "int") t1 (by omega) (fun v hv => by obtain ⟨i, t, rfl⟩ := t3 v hv; exact PySem.W.Looks.of_pure rfl) (by decide) ?_
    have nv : ws.length = vs.length := hl.symm
    have kin : ∀ i, i < ws.length → 0 ≤ (ps.getD i (0, 0)).2 ∧ (ps.getD i (0, 0)).2 < 1000 := fun i hi => by
      have hi' : i < ps.length := by omega
      have e : ps.getD i (0, 0) = ps[i] := by simp [hi']
      rw [e]; exact fine.1 _ (List.getElem_mem hi')
    refine Srt.wp_safe (n := ws.length) (lt := Srt.lt fun i => pkey (ps.getD i (0, 0))) (fun i j C hi hj hC => ?_) _ _ (Srt.safe_sort (by omega)) ?_
    · obtain ⟨a1, ea1, ha1⟩ := pairs_getD (i := i) hp (by omega)
      obtain ⟨a2, ea2, ha2⟩ := pairs_getD (i := j) hp (by omega)
      have r1 := vals_getD rv (i := i) (by omega)
      have r2 := vals_getD rv (i := j) (by omega)
      rw [ea1] at r1; rw [ea2] at r2
      obtain ⟨o1, k1, x1, y1, g1, _, d1⟩ := tk a1 _ ha1
      obtain ⟨o2, k2, x2, y2, g2, _, d2⟩ := tk a2 _ ha2
      show wpAny _ _ (keyLt' (tuples' true) (ws.getD i .none) (ws.getD j .none)) C (fun _ _ => False) { s with heap := h', toks := tk0 }
      rw [show ws.getD i .none = .ref a1 from r1, show ws.getD j .none = .ref a2 from r2]
      exact pair_lt (s := { s with heap := h', toks := tk0 }) g1 d1 g2 d2 (kin i hi) (kin j hj) hC
    · have so := Srt.sort_ok (n := ws.length) (key := fun i => pkey (ps.getD i (0, 0))) (by omega) fun i j hi hj ek => by
        have pe := pkey_inj (kin i hi) (kin j hj) ek
        have hi' : i < ps.length := by omega
        have hj' : j < ps.length := by omega
        have e1 : ps.getD i (0, 0) = ps[i] := by simp [hi']
        have e2 : ps.getD j (0, 0) = ps[j] := by simp [hj']
        rw [e1, e2] at pe
        exact (List.getElem_inj fine.2).mp pe
      generalize Srt.run (Srt.lt fun i => pkey (ps.getD i (0, 0))) (PySem.W.kas_sort ws.length) = pm at so
      obtain ⟨so1, so2⟩ := so
      have so1' : pm.toList.Perm (List.range ws.length) := by simpa using so1.toList
      have ml : pm.toList.length = ws.length := by rw [so1'.length_eq]; simp
      have mem : ∀ i ∈ pm.toList, i < ws.length := fun i hi => List.mem_range.mp (so1'.mem_iff.mp hi)
      refine PySem.W.KasFin.intro F' N' (PySem.W.UpdF.head fun p hp => Nat.ne_of_lt (hD p hp)) fun h'' c F'' N'' => fin pm h'' c F'' N'' so1' so2
end L2

set_option Elab.async false
set_option linter.all false
set_option maxRecDepth 100000
set_option maxHeartbeats 4000000
namespace L2
open PySem PySem.Spec PyProof.Rows
/-- not x, x any value that has a truth -/
theorem pe_notT {X : Cx} {a : Expr} {ta : TE} {pos : Pos} (ha : PE X a ta) : PE X (.UnaryOp .Not a pos) (fun σ H Q => ta σ H fun x H' => ∃ k, TruV X.K x H' k ∧ Q (.bl (!k)) H') := by
  intro pins s σ H Q I h
  refine UnaryOp_ (thn (ha pins s σ H _ I h) fun v s1 ⟨x, H1, I1, r1, k, tr, q1⟩ => ?_)
  exact not_of (thn (tru_ok pins s1 σ H1 x v _ I1 r1 ⟨k, tr, q1⟩) fun b s2 ⟨H2, I2, q2⟩ => ⟨.bl (!b), H2, I2, rfl, q2⟩)
theorem Same.upd {H H1 : Hp} {p : Addr} {o : HO} (a : Same H H1) (h : H p = none) : Same H (L2.upd H1 p o) := fun b u q => by
  rw [upd_ne (ne_of_none q h)]; exact a b u q
end L2
namespace Put
open PySem L2
def top (i : Nat) : Stmt := PySem.Challenge.pw_putsigns_k11_whole_worths_together.main.body.getD i (.Pass ⟨0, 0, 0, 0⟩)
/-! ### ways as data -/
inductive Sg where
  | plus | minus | times
  deriving DecidableEq
def Sg.str : Sg → Str
  | .plus => "+"
  | .minus => "-"
  | .times => "*"
inductive Wy where
  | num (i : Int)
  | node (g : Sg) (l r : Wy)
  deriving DecidableEq
def Wy.size : Wy → Nat
  | .num _ => 1
  | .node _ l r => l.size + r.size
def Wy.knots : Wy → Nat
  | .num _ => 1
  | .node _ l r => l.knots + r.knots + 1
theorem Wy.size_pos : ∀ w : Wy, 1 ≤ w.size
  | .num _ => Nat.le_refl _
  | .node _ l r => by have := l.size_pos; show 1 ≤ l.size + r.size; omega
def WyIn (H : Hp) : Wy → V → Prop
  | .num i, v => v = .int i
  | .node g l r, v => ∃ a vl vr, v = .ref a ∧ H a = some (.tup [.str g.str, vl, vr]) ∧ WyIn H l vl ∧ WyIn H r vr
def Tups (H H' : Hp) : Prop := ∀ b xs, H b = some (.tup xs) → H' b = some (.tup xs)
theorem Tups.of {H H' : Hp} (a : Same H H') : Tups H H' := fun b xs h => a b _ h
theorem Tups.but {H H' : Hp} {w : Addr} {xs : List V} (a : But w H H') (h : H w = some (.lst xs)) : Tups H H' := fun b ys q => a b _ (fun e => by rw [e, h] at q; cases q) q
theorem Tups.trans {H H1 H2 : Hp} (a : Tups H H1) (b : Tups H1 H2) : Tups H H2 := fun c xs h => b c xs (a c xs h)
theorem WyIn.mono {H H' : Hp} (t : Tups H H') : ∀ {w : Wy} {v : V}, WyIn H w v → WyIn H' w v
  | .num _, _, h => h
  | .node g l r, v, h => by
    obtain ⟨a, vl, vr, e, h1, h2, h3⟩ := h
    exact ⟨a, vl, vr, e, t _ _ h1, WyIn.mono t h2, WyIn.mono t h3⟩
/-- the values of a stack of ways -/
def WyAll (H : Hp) (ws : List Wy) (vs : List V) : Prop := Paired (fun w v => WyIn H w v) ws vs
theorem WyAll.mono {H H' : Hp} (t : Tups H H') : ∀ {ws : List Wy} {vs : List V}, WyAll H ws vs → WyAll H' ws vs
  | _, _, .nil => .nil
  | _, _, .cons a b => .cons (a.mono t) (WyAll.mono t b)
theorem WyAll.snoc {H : Hp} {w : Wy} {v : V} (h : WyIn H w v) : ∀ {ws : List Wy} {vs : List V}, WyAll H ws vs → WyAll H (ws ++ [w]) (vs ++ [v])
  | _, _, .nil => .cons h .nil
  | _, _, .cons a b => .cons a (WyAll.snoc h b)
theorem WyAll.length {H : Hp} : ∀ {ws : List Wy} {vs : List V}, WyAll H ws vs → ws.length = vs.length
  | _, _, .nil => rfl
  | _, _, .cons _ b => congrArg (· + 1) (WyAll.length b)
def sizes (ws : List Wy) : Nat := (ws.map Wy.size).sum
def knotss (ws : List Wy) : Nat := (ws.map Wy.knots).sum
theorem sizes_snoc (ws : List Wy) (w : Wy) : sizes (ws ++ [w]) = sizes ws + w.size := by simp [sizes]
theorem knotss_snoc (ws : List Wy) (w : Wy) : knotss (ws ++ [w]) = knotss ws + w.knots := by simp [knotss]
theorem length_le_sizes : ∀ ws : List Wy, ws.length ≤ sizes ws
  | [] => Nat.le_refl _
  | w :: r => by
    have a := length_le_sizes r; have b := w.size_pos
    show r.length + 1 ≤ (w.size :: r.map Wy.size).sum
    rw [List.sum_cons]
    have : sizes r = (r.map Wy.size).sum := rfl
    omega
/-- a list that is not empty ends with an item -/
theorem WyAll.last {H : Hp} {ws : List Wy} {vs : List V} (h : WyAll H ws vs) (ne : vs ≠ []) : ∃ ws' w vs' v, ws = ws' ++ [w] ∧ vs = vs' ++ [v] ∧ WyAll H ws' vs' ∧ WyIn H w v := by
  induction h with
  | nil => exact absurd rfl ne
  | @cons w v ws vs a b ih =>
    cases b with
    | nil => exact ⟨[], w, [], v, rfl, rfl, .nil, a⟩
    | cons a' b' =>
      obtain ⟨ws', w', vs', v', e1, e2, h1, h2⟩ := ih (by simp)
      exact ⟨w :: ws', w', v :: vs', v', by rw [e1]; rfl, by rw [e2]; rfl, .cons a h1, h2⟩
/-! ### what stands behind the top -/
structure Bu (K : PySem.W.Frag) (mg : Str → Option Value) : Prop where
  ilen : mg "len" = none
  iisinstance : mg "isinstance" = none
  iint : mg "int" = none
  ibool : mg "bool" = none
  istr : mg "str" = none
  ituple : mg "tuple" = none
  ilist : mg "list" = none
  isorted : mg "sorted" = none
  irange : mg "range" = none
  irepr : mg "repr" = none
  ienumerate : mg "enumerate" = none
  isum : mg "sum" = none
  iall : mg "all" = none
  imin : mg "min" = none
  imax : mg "max" = none
  iabs : mg "abs" = none
  idivmod : mg "divmod" = none
  idict : mg "dict" = none
  iset : mg "set" = none
structure Co (K : PySem.W.Frag) (mg : Str → Option Value) (tk : Tok) (aS : Addr) : Prop where
  gMOST_NUMBERS : mg "MOST_NUMBERS" = some (.int 9 tk)
  gSIGNS : mg "SIGNS" = some (.ref aS)
  sSIGNS : ∀ H, SqT K H aS [.str "+", .str "-", .str "*"]
section
variable {P : Program} {w : World} {K : PySem.W.Frag} {mg : Str → Option Value} {base : Heap} {f : Addr} {fd : FuncData}
/-! ### is_whole, is_sign -/
def spWhole (K : PySem.W.Frag) : Sp := fun vs H Q _ => ∃ x n, vs = [x] ∧ TyOf K H x (.type n) ∧ Q (.bl (decide (n = "int"))) H
abbrev s_is_whole : Stmt := top 8
theorem sc_is_whole : FnScope ["thing"] ["thing"] (defScope s_is_whole) := ⟨rfl, rfl, rfl, by decide +kernel, rfl, by decide +kernel, by decide +kernel⟩
theorem ok_is_whole (F : Fun K "is_whole" "is_whole" s_is_whole f fd) (B : Bu K mg) : FnOk P w K mg base CX0 1 f fd ["thing"] (spWhole K) := by
  refine F.ok sc_is_whole (fun vs H Q E h => ?_) (fun cdv A outer s H vs Q E hr h => ?_)
  · obtain ⟨x, n, rfl, _⟩ := h
    rfl
  obtain ⟨x, n, rfl, ty, q⟩ := h
  refine ⟨_, (@pss_one _ _ _ (@ps_ret _ _ _ _ (@pe_and _ _ _ _ _ _ _ (@pe_callB _ _ _ _ _ _ _ _ _ (@call_isinst _ ("int")) rfl B.iisinstance PyProof.Rows.boot_isinstance (@pa_cons _ _ _ _ _ (@pv _ 0 _ _ (by rfl) (by first | exact Or.inl rfl | exact Or.inr ( Or.inl rfl ) | exact Or.inr ( Or.inr rfl )) (by decide) (by decide)) (@pa_cons _ _ _ _ _ (@pe_bltn _ _ (.ty "int") _ _ rfl B.iint PyProof.Rows.boot_int rfl (by decide) (by decide)) pa_nil (by rfl)) (by rfl)) (by decide) (by decide) (by rfl) (by rfl)) (@pe_one _ _ _ _ _ (@pe_not _ _ _ _ (@pe_callB _ _ _ _ _ _ _ _ _ (@call_isinst _ ("bool")) rfl B.iisinstance PyProof.Rows.boot_isinstance (@pa_cons _ _ _ _ _ (@pv _ 0 _ _ (by rfl) (by first | exact Or.inl rfl | exact Or.inr ( Or.inl rfl ) | exact Or.inr ( Or.inr rfl )) (by decide) (by decide)) (@pa_cons _ _ _ _ _ (@pe_bltn _ _ (.ty "bool") _ _ rfl B.ibool PyProof.Rows.boot_bool rfl (by decide) (by decide)) pa_nil (by rfl)) (by rfl)) (by decide) (by decide) (by rfl) (by rfl))))))), ?_⟩
  cases ty with
  | non => exact ⟨_, rfl, _, _, false, rfl, .non, rfl, false, rfl, iteF q⟩
  | bl y => exact ⟨_, rfl, _, _, true, rfl, .bl y, rfl, true, rfl, iteT ⟨_, rfl, _, _, true, rfl, .bl y, rfl, true, rfl, q⟩⟩
  | int i => exact ⟨_, rfl, _, _, true, rfl, .int i, rfl, true, rfl, iteT ⟨_, rfl, _, _, false, rfl, .int i, rfl, false, rfl, q⟩⟩
  | str y => exact ⟨_, rfl, _, _, false, rfl, .str y, rfl, false, rfl, iteF q⟩
  | flt y => exact ⟨_, rfl, _, _, false, rfl, .flt y, rfl, false, rfl, iteF q⟩
  | lst e => exact ⟨_, rfl, _, _, false, rfl, .lst e, rfl, false, rfl, iteF q⟩
  | frz e => exact ⟨_, rfl, _, _, false, rfl, .frz e, rfl, false, rfl, iteF q⟩
  | tup e => exact ⟨_, rfl, _, _, false, rfl, .tup e, rfl, false, rfl, iteF q⟩
  | dK e => exact ⟨_, rfl, _, _, false, rfl, .dK e, rfl, false, rfl, iteF q⟩
  | dT e => exact ⟨_, rfl, _, _, false, rfl, .dT e, rfl, false, rfl, iteF q⟩
def isSg (z : Str) : Bool := inV (.str z) [.str "+", .str "-", .str "*"]
theorem isSg_str (g : Sg) : isSg g.str = true := by cases g <;> decide +kernel
def spSign : Sp := fun vs H Q _ => ∃ z, vs = [.str z] ∧ Q (.bl (isSg z)) H
abbrev s_is_sign : Stmt := top 9
theorem sc_is_sign : FnScope ["thing"] ["thing"] (defScope s_is_sign) := ⟨rfl, rfl, rfl, by decide +kernel, rfl, by decide +kernel, by decide +kernel⟩
theorem ok_is_sign {tk : Tok} {aS : Addr} (F : Fun K "is_sign" "is_sign" s_is_sign f fd) (B : Bu K mg) (B' : Co K mg tk aS) : FnOk P w K mg base CX0 1 f fd ["thing"] spSign := by
  refine F.ok sc_is_sign (fun vs H Q E h => ?_) (fun cdv A outer s H vs Q E hr h => ?_)
  · obtain ⟨x, rfl, _⟩ := h
    rfl
  obtain ⟨z, rfl, q⟩ := h
  refine ⟨_, (pss_one (ps_ret (pe_and (pe_callB (call_isinst (n := "str")) rfl B.iisinstance PyProof.Rows.boot_isinstance (pa_cons (pv 0) (pa_cons (pe_bltn (v := .ty "str") rfl B.istr PyProof.Rows.boot_str rfl) pa_nil))) (pe_one (pe_cmpR op_in_seq (pv 0) (pe_glob (v := .ref aS) rfl B'.gSIGNS rfl) (by with_unfolding_all rfl)))))), ?_⟩
  exact ⟨_, rfl, _, _, true, rfl, .str z, rfl, true, rfl, iteT ⟨_, rfl, aS, _, rfl, .inr (B'.sSIGNS H), rfl, rfl, q⟩⟩
end
end Put

set_option Elab.async false
set_option linter.all false
set_option maxRecDepth 100000
set_option maxHeartbeats 4000000
namespace Put
open PySem L2
section
variable {P : Program} {w : World} {K : PySem.W.Frag} {mg : Str → Option Value} {base : Heap} {f : Addr} {fd : FuncData}
theorem last_at {α : Type} (xs : List α) (x : α) : (xs ++ [x])[(xs ++ [x]).length - 1]? = some x := by simp
theorem trunc (xs : List V) (x : V) : (xs ++ [x]).dropLast = xs := by simp
theorem le_line {n : Nat} (h : n ≤ 1000) : n ≤ sizeLine := Nat.le_of_lt (small1000 h)
/-! ### is_way of a way -/
def spIsWay : Sp := fun vs H Q _ => ∃ w v, vs = [v] ∧ WyIn H w v ∧ w.size ≤ 9 ∧ ∀ H', Same H H' → Q (.bl true) H'
abbrev s_is_way : Stmt := top 10
theorem sc_is_way : FnScope ["thing", "waiting", "numbers", "part"] ["thing"] (defScope s_is_way) := ⟨rfl, rfl, rfl, by decide +kernel, rfl, by decide +kernel, by decide +kernel⟩
theorem ok_is_way {tk : Tok} {aS : Addr} (F : Fun K "is_way" "is_way" s_is_way f fd) (B : Bu K mg) (B' : Co K mg tk aS) (C_is_whole : Cal P w K mg base "is_whole" 1 ["thing"] (spWhole K)) (C_is_sign : Cal P w K mg base "is_sign" 1 ["thing"] spSign) :
    FnOk P w K mg base CX0 2 f fd ["thing"] spIsWay := by
  refine F.ok sc_is_way (fun vs H Q E h => ?_) (fun cdv A outer s H vs Q E hr h => ?_)
  · obtain ⟨x, v, rfl, _⟩ := h
    rfl
  obtain ⟨wy, v, rfl, hw, h9, q⟩ := h
  refine ⟨_, (@pss_cons _ _ _ _ _ (@ps_set _ _ (1) _ _ _ _ (sc_is_way).nd rfl (Or.inl rfl) (@pe_lst _ _ _ _ (@pa_cons _ _ _ _ _ (@pv _ 0 _ _ (by rfl) (by first | exact Or.inl rfl | exact Or.inr ( Or.inl rfl ) | exact Or.inr ( Or.inr rfl )) (by decide) (by decide)) pa_nil (by rfl))) (by rfl) (by first | exact .inl rfl | exact .inr rfl | assumption)) (@pss_cons _ _ _ _ _ (@ps_set _ _ (2) _ _ _ _ (sc_is_way).nd rfl (Or.inl rfl) pe_int (by rfl) (by first | exact .inl rfl | exact .inr rfl | assumption)) (@pss_cons _ _ _ _ _ (@ps_while _ _ _ _ _ _ PassesOwn.never (@PW.pt _ _ _ (@pw_and _ _ _ _ _ _ _ (@pt_truth _ _ _ (@pv _ 1 _ _ (by rfl) (by first | exact Or.inl rfl | exact Or.inr ( Or.inl rfl ) | exact Or.inr ( Or.inr rfl )) (by decide) (by decide)) (fun _ => rfl)) (@pw_and1 _ _ _ _ (@pt_cmpR _ _ _ _ _ _ _ _ op_le (@pe_op _ _ _ _ _ _ _ _ op_add (@pv _ 2 _ _ (by rfl) (by first | exact Or.inl rfl | exact Or.inr ( Or.inl rfl ) | exact Or.inr ( Or.inr rfl )) (by decide) (by decide)) (@pe_callB _ _ _ _ _ _ _ _ _ call_len_seq rfl B.ilen PySem.boot_len (@pa_cons _ _ _ _ _ (@pv _ 1 _ _ (by rfl) (by first | exact Or.inl rfl | exact Or.inr ( Or.inl rfl ) | exact Or.inr ( Or.inr rfl )) (by decide) (by decide)) pa_nil (by rfl)) (by decide) (by decide) (by rfl) (by rfl))) (@pe_glob _ _ (.int 9) _ _ rfl B'.gMOST_NUMBERS ⟨_, rfl⟩ (by decide)) (nomark _))))) (@pss_cons _ _ _ _ _ (@ps_set _ _ (3) _ _ _ _ (sc_is_way).nd rfl (Or.inl rfl) (@pe_bm0 _ _ _ _ _ _ _ _ _ PySem.F.plainAttrs_list PySem.F.slot_list_pop PySem.F.type_list_pop mt_pop (@pv _ 1 _ _ (by rfl) (by first | exact Or.inl rfl | exact Or.inr ( Or.inl rfl ) | exact Or.inr ( Or.inr rfl )) (by decide) (by decide)) (by rfl) (by rfl)) (by rfl) (by first | exact .inl rfl | exact .inr rfl | assumption)) (@pss_one _ _ _ (@ps_if _ _ _ _ _ _ _ _ (@pt_val _ _ _ (@pe_cal _ _ _ _ _ _ _ _ _ _ _ C_is_whole hr (by omega) rfl (@pa_cons _ _ _ _ _ (@pv _ 3 _ _ (by rfl) (by first | exact Or.inl rfl | exact Or.inr ( Or.inl rfl ) | exact Or.inr ( Or.inr rfl )) (by decide) (by decide)) pa_nil (by rfl)) (by decide) (by rfl) (by rfl)) (by intro _; rfl)) (@pss_one _ _ _ (@ps_aug _ _ (2) _ _ _ _ _ _ (sc_is_way).nd rfl (Or.inl rfl) pe_int ip_add (by first | exact .inl rfl | exact .inr rfl | assumption))) (@pss_one _ _ _ (@ps_if _ _ _ _ _ _ _ _ (@PW.pt _ _ _ (@pw_and _ _ _ _ _ _ _ (@pt_val _ _ _ (@pe_callB _ _ _ _ _ _ _ _ _ (@call_isinst _ ("tuple")) rfl B.iisinstance PyProof.Rows.boot_isinstance (@pa_cons _ _ _ _ _ (@pv _ 3 _ _ (by rfl) (by first | exact Or.inl rfl | exact Or.inr ( Or.inl rfl ) | exact Or.inr ( Or.inr rfl )) (by decide) (by decide)) (@pa_cons _ _ _ _ _ (@pe_bltn _ _ (.ty "tuple") _ _ rfl B.ituple PyProof.Rows.boot_tuple rfl (by decide) (by decide)) pa_nil (by rfl)) (by rfl)) (by decide) (by decide) (by rfl) (by rfl)) (by intro _; rfl)) (@pw_and _ _ _ _ _ _ _ (@pt_cmpR _ _ _ _ _ _ _ _ op_eq (@pe_callB _ _ _ _ _ _ _ _ _ call_len_seq rfl B.ilen PySem.boot_len (@pa_cons _ _ _ _ _ (@pv _ 3 _ _ (by rfl) (by first | exact Or.inl rfl | exact Or.inr ( Or.inl rfl ) | exact Or.inr ( Or.inr rfl )) (by decide) (by decide)) pa_nil (by rfl)) (by decide) (by decide) (by rfl) (by rfl)) pe_int (nomark _)) (@pw_and1 _ _ _ _ (@pt_val _ _ _ (@pe_cal _ _ _ _ _ _ _ _ _ _ _ C_is_sign hr (by omega) rfl (@pa_cons _ _ _ _ _ (@pe_ix _ _ _ _ _ _ _ ix_tup (@pv _ 3 _ _ (by rfl) (by first | exact Or.inl rfl | exact Or.inr ( Or.inl rfl ) | exact Or.inr ( Or.inr rfl )) (by decide) (by decide)) pe_int (fun _ _ => rfl)) pa_nil (by rfl)) (by decide) (by rfl) (by rfl)) (by intro _; rfl)))))) (@pss_cons _ _ _ _ _ (@ps_expr _ _ _ _ (@pe_bm _ _ _ _ _ _ _ _ _ _ _ _ PySem.F.plainAttrs_list PySem.F.slot_list_append PySem.F.type_list_append mt_append (@pv _ 1 _ _ (by rfl) (by first | exact Or.inl rfl | exact Or.inr ( Or.inl rfl ) | exact Or.inr ( Or.inr rfl )) (by decide) (by decide)) (@pa_cons _ _ _ _ _ (@pe_ix _ _ _ _ _ _ _ ix_tup (@pv _ 3 _ _ (by rfl) (by first | exact Or.inl rfl | exact Or.inr ( Or.inl rfl ) | exact Or.inr ( Or.inr rfl )) (by decide) (by decide)) pe_int (fun _ _ => rfl)) pa_nil (by rfl)) (by rfl) (by rfl) (by rfl) (by rfl) (by rfl)) (by rfl)) (@pss_one _ _ _ (@ps_expr _ _ _ _ (@pe_bm _ _ _ _ _ _ _ _ _ _ _ _ PySem.F.plainAttrs_list PySem.F.slot_list_append PySem.F.type_list_append mt_append (@pv _ 1 _ _ (by rfl) (by first | exact Or.inl rfl | exact Or.inr ( Or.inl rfl ) | exact Or.inr ( Or.inr rfl )) (by decide) (by decide)) (@pa_cons _ _ _ _ _ (@pe_ix _ _ _ _ _ _ _ ix_tup (@pv _ 3 _ _ (by rfl) (by first | exact Or.inl rfl | exact Or.inr ( Or.inl rfl ) | exact Or.inr ( Or.inr rfl )) (by decide) (by decide)) pe_int (fun _ _ => rfl)) pa_nil (by rfl)) (by rfl) (by rfl) (by rfl) (by rfl) (by rfl)) (by rfl)))) (@pss_one _ _ _ (@ps_ret _ _ _ _ pe_bl)))))))) (@pss_one _ _ _ (@ps_ret _ _ _ _ (pe_notT (pv 1))))))), ?_⟩
  refine ⟨_, rfl, (by show 1 ≤ sizeLine; decide), fun p hp => ?_⟩
  refine ⟨fun m σ H' => ∃ (n : Nat) (ws : List Wy) (vs : List V) (part : Option V), σ = [some v, some (.ref p), some (.int n), part] ∧ H' p = some (.lst vs) ∧ WyAll H' ws vs ∧ Same H H' ∧ n + sizes ws ≤ 9 ∧ m = knotss ws, ?_, ?_⟩
  · exact ⟨_, 0, [wy], [v], _, rfl, upd_same, .cons (hw.mono (Tups.of (Same.new hp _))) .nil, Same.new hp _, by simpa [sizes] using h9, rfl⟩
  rintro m σ H' ⟨n, ws, vs, part, rfl, hH, hall, hS, hn, rfl⟩
  by_cases ne : vs = []
  · subst ne
    refine ⟨_, rfl, false, .inl ⟨[], SqL.of hH, rfl⟩, iteF (iteF ?_)⟩
    exact ⟨_, rfl, false, .inl ⟨[], SqL.of hH, rfl⟩, q H' hS⟩
  obtain ⟨ws', w', vs', v', rfl, rfl, hall', hw'⟩ := hall.last ne
  have hl := hall.length
  have hle := length_le_sizes (ws' ++ [w'])
  rw [sizes_snoc] at hn hle
  have hlen : ((n : Int) + ((vs' ++ [v']).length : Nat) ≤ 9) := by omega
  refine ⟨_, rfl, true, .inl ⟨_, SqL.of hH, by simp⟩, iteT ⟨_, rfl, _, rfl, p, _, rfl, .inl (SqL.of hH), _, _, rfl, rfl, _, _, rfl, rfl, true, congrArg V.bl (decide_eq_true hlen), iteT ⟨fun σ' H' => ∃ m', m' < knotss (ws' ++ [w']) ∧ _, fun _ _ h => h, ?_⟩⟩⟩
  refine ⟨_, rfl, .inl ⟨rfl, _, SqL.of hH⟩, p, _, v', rfl, rfl, hH, last_at _ _, ?_⟩
  rw [trunc]
  have hT : Tups H' (upd H' p (.lst vs')) := fun b xs z => by rw [upd_ne (fun e => by rw [e, hH] at z; cases z)]; exact z
  have hp0 : H p = none := hp
  have hS2 : Same H (upd H' p (.lst vs')) := hS.upd hp0
  rw [knotss_snoc]
  cases w' with
  | num i =>
    cases hw'
    refine ⟨_, rfl, _, "int", rfl, .int i, true, rfl, iteT ⟨_, rfl, _, _, rfl, rfl, ?_⟩⟩
    refine ⟨knotss ws', Nat.lt_succ_self _, n + 1, ws', vs', _, rfl, upd_same, hall'.mono hT, hS2, ?_, rfl⟩
    have : n + (sizes ws' + 1) ≤ 9 := hn
    omega
  | node g l r =>
    obtain ⟨a, vl, vr, rfl, ha, hl', hr'⟩ := hw'
    have ha2 : upd H' p (.lst vs') a = some (.tup [.str g.str, vl, vr]) := hT _ _ ha
    refine ⟨_, rfl, _, "tuple", rfl, .tup ha2, false, rfl, iteF ?_⟩
    refine ⟨_, rfl, _, _, true, rfl, .tup ha2, rfl, true, rfl, iteT ⟨_, rfl, a, _, rfl, .inr (SqT.of ha2), rfl, _, rfl, iteT ?_⟩⟩
    refine ⟨_, rfl, a, _, _, _, rfl, rfl, SqT.of ha2, rfl, _, rfl, true, congrArg V.bl (isSg_str g), iteT ?_⟩
    have hsz : vs'.length ≤ 9 := by
      have := hall'.length
      have z := length_le_sizes ws'
      omega
    refine ⟨_, rfl, .inl ⟨rfl, _, SqL.of upd_same⟩, _, rfl, a, _, _, _, rfl, rfl, SqT.of ha2, rfl, p, _, _, rfl, rfl, upd_same, (small1000 (by omega)), ?_⟩
    have hT2 : Tups (upd H' p (.lst vs')) (upd (upd H' p (.lst vs')) p (.lst (vs' ++ [vl]))) := fun b xs z => by rw [upd_ne (fun e => by rw [e, upd_same] at z; cases z)]; exact z
    refine ⟨_, rfl, .inl ⟨rfl, _, SqL.of upd_same⟩, _, rfl, a, _, _, _, rfl, rfl, SqT.of (hT2 _ _ ha2), rfl, p, _, _, rfl, rfl, upd_same, (small1000 (by rw [List.length_append, List.length_singleton]; omega)), ?_⟩
    have hT3 : Tups (upd (upd H' p (.lst vs')) p (.lst (vs' ++ [vl]))) (upd (upd (upd H' p (.lst vs')) p (.lst (vs' ++ [vl]))) p (.lst (vs' ++ [vl] ++ [vr]))) := fun b xs z => by rw [upd_ne (fun e => by rw [e, upd_same] at z; cases z)]; exact z
    have hTT := (hT.trans hT2).trans hT3
    refine ⟨knotss (ws' ++ [l] ++ [r]), ?_, n, ws' ++ [l] ++ [r], vs' ++ [vl] ++ [vr], _, rfl, upd_same, ((hall'.mono hTT).snoc (hl'.mono hTT)).snoc (hr'.mono hTT), (hS2.upd hp0).upd hp0, ?_, rfl⟩
    · rw [knotss_snoc, knotss_snoc]
      show knotss ws' + l.knots + r.knots < knotss ws' + (l.knots + r.knots + 1)
      omega
    · rw [sizes_snoc, sizes_snoc]
      have : n + (sizes ws' + (l.size + r.size)) ≤ 9 := hn
      omega
def spNeedWay : Sp := fun vs H Q _ => ∃ w v, vs = [v] ∧ WyIn H w v ∧ w.size ≤ 9 ∧ ∀ H', Same H H' → Q .non H'
abbrev s_need_way : Stmt := top 11
theorem sc_need_way : FnScope ["thing"] ["thing"] (defScope s_need_way) := ⟨rfl, rfl, rfl, by decide +kernel, rfl, by decide +kernel, by decide +kernel⟩
theorem ok_need_way (F : Fun K "need_way" "need_way" s_need_way f fd) (C_is_way : Cal P w K mg base "is_way" 2 ["thing"] spIsWay) : FnOk P w K mg base CX0 3 f fd ["thing"] spNeedWay := by
  refine F.ok sc_need_way (fun vs H Q E h => ?_) (fun cdv A outer s H vs Q E hr h => ?_)
  · obtain ⟨x, v, rfl, _⟩ := h
    rfl
  obtain ⟨wy, v, rfl, hw, h9, q⟩ := h
  refine ⟨_, (@pss_one _ _ _ (@ps_if _ _ _ _ _ _ _ _ (@pt_not _ _ _ _ (@pt_val _ _ _ (@pe_cal _ _ _ _ _ _ _ _ _ _ _ C_is_way hr (by omega) rfl (@pa_cons _ _ _ _ _ (@pv _ 0 _ _ (by rfl) (by first | exact Or.inl rfl | exact Or.inr ( Or.inl rfl ) | exact Or.inr ( Or.inr rfl )) (by decide) (by decide)) pa_nil (by rfl)) (by decide) (by rfl) (by rfl)) (by intro _; rfl))) (@pss_one _ _ _ ps_never) pss_nil)), ?_⟩
  exact ⟨_, rfl, wy, v, rfl, hw, h9, fun H' hS => ⟨true, rfl, iteF (q H' hS)⟩⟩
/-! ### the numbers -/
def Wy.nums : Wy → List Int
  | .num i => [i]
  | .node _ l r => l.nums ++ r.nums
theorem Wy.nums_len : ∀ w : Wy, w.nums.length = w.size
  | .num _ => rfl
  | .node _ l r => by show (l.nums ++ r.nums).length = l.size + r.size; rw [List.length_append, l.nums_len, r.nums_len]
def Wy.deep : Wy → Nat
  | .num _ => 1
  | .node _ l r => max l.deep r.deep + 1
theorem Wy.deep_le : ∀ w : Wy, w.deep ≤ w.size
  | .num _ => Nat.le_refl _
  | .node _ l r => by have a := l.deep_le; have b := r.deep_le; have c := l.size_pos; have d := r.size_pos; show max l.deep r.deep + 1 ≤ l.size + r.size; omega
def spNums (n : Nat) : Sp := fun vs H Q _ => ∃ w v, vs = [v] ∧ WyIn H w v ∧ w.size ≤ 20 ∧ w.deep ≤ n ∧ ∀ p H', Same H H' → H p = none → H' p = some (.lst (w.nums.map V.int)) → Q (.ref p) H'
abbrev s_list_numbers : Stmt := top 14
theorem sc_list_numbers : FnScope ["way", "sign", "left", "right"] ["way"] (defScope s_list_numbers) := ⟨rfl, rfl, rfl, by decide +kernel, rfl, by decide +kernel, by decide +kernel⟩
theorem ok_list_numbers (F : Fun K "list_numbers" "list_numbers" s_list_numbers f fd) (bF : Binds K fd ["way"] []) (mF : mg "list_numbers" = some (.ref f)) (C_is_whole : Cal P w K mg base "is_whole" 1 ["thing"] (spWhole K)) :
    ∀ n, FnOk P w K mg base CX0 (n + 1) f fd ["way"] (spNums n) := by
  intro n
  induction n with
  | zero =>
    refine ⟨fun vs H Q E h => ?_, fun A outer s H args us vs Q E _ _ _ _ h => ?_⟩
    · obtain ⟨x, v, rfl, _⟩ := h
      rfl
    · obtain ⟨wy, v, _, _, _, hd, _⟩ := h
      cases wy <;> exact absurd hd (by simp [Wy.deep])
  | succ n ih =>
    have C_list_numbers : Cal P w K mg base "list_numbers" (n + 1) ["way"] (spNums n) := ⟨f, fd, ih, bF, F.kp, mF⟩
    refine F.ok sc_list_numbers (fun vs H Q E h => ?_) (fun cdv A outer s H vs Q E hr h => ?_)
    · obtain ⟨x, v, rfl, _⟩ := h
      rfl
    obtain ⟨wy, v, rfl, hw, h20, hd, q⟩ := h
    refine ⟨_, (@pss_cons _ _ _ _ _ (@ps_if _ _ _ _ _ _ _ _ (@pt_val _ _ _ (@pe_cal _ _ _ _ _ _ _ _ _ _ _ C_is_whole hr (by omega) rfl (@pa_cons _ _ _ _ _ (@pv _ 0 _ _ (by rfl) (by first | exact Or.inl rfl | exact Or.inr ( Or.inl rfl ) | exact Or.inr ( Or.inr rfl )) (by decide) (by decide)) pa_nil (by rfl)) (by decide) (by rfl) (by rfl)) (by intro _; rfl)) (@pss_one _ _ _ (@ps_ret _ _ _ _ (@pe_lst _ _ _ _ (@pa_cons _ _ _ _ _ (@pv _ 0 _ _ (by rfl) (by first | exact Or.inl rfl | exact Or.inr ( Or.inl rfl ) | exact Or.inr ( Or.inr rfl )) (by decide) (by decide)) pa_nil (by rfl))))) pss_nil) (@pss_cons _ _ _ _ _ (@ps_asg _ _ _ _ _ _ (@pv _ 0 _ _ (by rfl) (by first | exact Or.inl rfl | exact Or.inr ( Or.inl rfl ) | exact Or.inr ( Or.inr rfl )) (by decide) (by decide)) (@pg_tup _ _ _ _ _ _ rfl (@pgs_cons _ _ _ _ _ (@pg_name _ _ (1) _ (sc_list_numbers).nd rfl (Or.inl rfl) (by first | exact .inl rfl | exact .inr rfl | assumption)) (@pgs_cons _ _ _ _ _ (@pg_name _ _ (2) _ (sc_list_numbers).nd rfl (Or.inl rfl) (by first | exact .inl rfl | exact .inr rfl | assumption)) (@pgs_cons _ _ _ _ _ (@pg_name _ _ (3) _ (sc_list_numbers).nd rfl (Or.inl rfl) (by first | exact .inl rfl | exact .inr rfl | assumption)) pgs_nil (by rfl)) (by rfl)) (by rfl)) (by rfl) (by rfl)) (by rfl) (by rfl) (by rfl)) (@pss_one _ _ _ (@ps_ret _ _ _ _ (@pe_op _ _ _ _ _ _ _ _ op_cat (@pe_cal _ _ _ _ _ _ _ _ _ _ _ C_list_numbers hr (by omega) rfl (@pa_cons _ _ _ _ _ (@pv _ 2 _ _ (by rfl) (by first | exact Or.inl rfl | exact Or.inr ( Or.inl rfl ) | exact Or.inr ( Or.inr rfl )) (by decide) (by decide)) pa_nil (by rfl)) (by decide) (by rfl) (by rfl)) (@pe_cal _ _ _ _ _ _ _ _ _ _ _ C_list_numbers hr (by omega) rfl (@pa_cons _ _ _ _ _ (@pv _ 3 _ _ (by rfl) (by first | exact Or.inl rfl | exact Or.inr ( Or.inl rfl ) | exact Or.inr ( Or.inr rfl )) (by decide) (by decide)) pa_nil (by rfl)) (by decide) (by rfl) (by rfl))))))), ?_⟩
    cases wy with
    | num i =>
      cases hw
      refine ⟨_, rfl, _, "int", rfl, .int i, true, rfl, iteT ⟨_, rfl, (by show 1 ≤ sizeLine; decide), fun p hp => ?_⟩⟩
      exact q p _ (Same.new hp _) hp upd_same
    | node g l r =>
      obtain ⟨a, vl, vr, rfl, ha, hl, hr'⟩ := hw
      refine ⟨_, rfl, _, "tuple", rfl, .tup ha, false, rfl, iteF ?_⟩
      have d : max l.deep r.deep + 1 ≤ n + 1 := hd
      have z : l.size + r.size ≤ 20 := h20
      have zl := l.size_pos; have zr := r.size_pos
      refine ⟨_, rfl, a, _, rfl, SqT.of ha, rfl, _, _, rfl, _, _, rfl, _, _, rfl, rfl, ?_⟩
      refine ⟨_, rfl, l, vl, rfl, hl, by omega, by omega, fun p H1 g1 n1 e1 => ?_⟩
      refine ⟨_, rfl, r, vr, rfl, hr'.mono (Tups.of g1), by omega, by omega, fun p2 H2 g2 n2 e2 => ?_⟩
      refine ⟨p, p2, _, _, rfl, rfl, g2 _ _ e1, e2, le_line (by rw [List.length_map, List.length_map, l.nums_len, r.nums_len]; omega), fun p3 n3 => ?_⟩
      refine q p3 _ ((g1.trans g2).trans (Same.new n3 _)) ((g1.trans g2).free n3) ?_
      rw [upd_same]
      show some (HO.lst (l.nums.map V.int ++ r.nums.map V.int)) = some (HO.lst ((l.nums ++ r.nums).map V.int))
      rw [List.map_append]
def spNumbersOf : Sp := fun vs H Q _ => ∃ w v, vs = [v] ∧ WyIn H w v ∧ w.size ≤ 9 ∧ ∀ p H', Same H H' → H p = none → H' p = some (.lst (w.nums.map V.int)) → Q (.ref p) H'
abbrev s_numbers_of : Stmt := top 13
theorem sc_numbers_of : FnScope ["way"] ["way"] (defScope s_numbers_of) := ⟨rfl, rfl, rfl, by decide +kernel, rfl, by decide +kernel, by decide +kernel⟩
theorem ok_numbers_of (F : Fun K "numbers_of" "numbers_of" s_numbers_of f fd) (C_need_way : Cal P w K mg base "need_way" 3 ["thing"] spNeedWay) (C_list_numbers : Cal P w K mg base "list_numbers" 21 ["way"] (spNums 20)) :
    FnOk P w K mg base CX0 22 f fd ["way"] spNumbersOf := by
  refine F.ok sc_numbers_of (fun vs H Q E h => ?_) (fun cdv A outer s H vs Q E hr h => ?_)
  · obtain ⟨x, v, rfl, _⟩ := h
    rfl
  obtain ⟨wy, v, rfl, hw, h9, q⟩ := h
  refine ⟨_, (@pss_cons _ _ _ _ _ (@ps_expr _ _ _ _ (@pe_cal _ _ _ _ _ _ _ _ _ _ _ C_need_way hr (by omega) rfl (@pa_cons _ _ _ _ _ (@pv _ 0 _ _ (by rfl) (by first | exact Or.inl rfl | exact Or.inr ( Or.inl rfl ) | exact Or.inr ( Or.inr rfl )) (by decide) (by decide)) pa_nil (by rfl)) (by decide) (by rfl) (by rfl)) (by rfl)) (@pss_one _ _ _ (@ps_ret _ _ _ _ (@pe_cal _ _ _ _ _ _ _ _ _ _ _ C_list_numbers hr (by omega) rfl (@pa_cons _ _ _ _ _ (@pv _ 0 _ _ (by rfl) (by first | exact Or.inl rfl | exact Or.inr ( Or.inl rfl ) | exact Or.inr ( Or.inr rfl )) (by decide) (by decide)) pa_nil (by rfl)) (by decide) (by rfl) (by rfl))))), ?_⟩
  refine ⟨_, rfl, wy, v, rfl, hw, h9, fun H1 g1 => ?_⟩
  have dl := wy.deep_le
  exact ⟨_, rfl, wy, v, rfl, hw.mono (Tups.of g1), by omega, by omega, fun p H2 g2 n2 e2 => q p H2 (g1.trans g2) (g1.free n2) e2⟩
/-! ### the signs -/
def Wy.sgs : Wy → List Sg
  | .num _ => []
  | .node g l r => l.sgs ++ g :: r.sgs
def sgText : List Sg → Str
  | [] => ""
  | g :: r => g.str ++ sgText r
theorem sg_len (g : Sg) : g.str.length = 1 := by cases g <;> rfl
theorem str_len (x y : Str) : (x ++ y).length = x.length + y.length := by
  cases x; cases y
  show (_ ++ _ : Array Nat).size = _
  rw [Array.size_append]; rfl
theorem sgText_len : ∀ xs : List Sg, (sgText xs).length = xs.length
  | [] => rfl
  | g :: r => by show (g.str ++ sgText r).length = r.length + 1; rw [str_len, sg_len, sgText_len r]; omega
def spSgs (n : Nat) : Sp := fun vs H Q _ => ∃ w v, vs = [v] ∧ WyIn H w v ∧ w.size ≤ 20 ∧ w.deep ≤ n ∧ ∀ H', Same H H' → Q (.str (sgText w.sgs)) H'
def spSignsOf : Sp := fun vs H Q _ => ∃ w v, vs = [v] ∧ WyIn H w v ∧ w.size ≤ 9 ∧ ∀ H', Same H H' → Q (.str (sgText w.sgs)) H'
end
end Put

set_option Elab.async false
set_option linter.all false
set_option maxRecDepth 100000
set_option maxHeartbeats 4000000
namespace Put
open PySem L2
/-! ### the well of draws: at w a list of three ints, the third at most M -/
def Wel (H : Hp) (w : Addr) (M : Int) : Prop := ∃ a b c, H w = some (.lst [.int a, .int b, .int c]) ∧ 0 ≤ c ∧ c ≤ M
theorem Wel.keep {H H' : Hp} {w : Addr} {M M' : Int} (h : Wel H w M) (s : Same H H') (m : M ≤ M') : Wel H' w M' := by
  obtain ⟨a, b, c, e, h0, h1⟩ := h
  exact ⟨a, b, c, s _ _ e, h0, by omega⟩
theorem Wel.more {H : Hp} {w : Addr} {M M' : Int} (h : Wel H w M) (m : M ≤ M') : Wel H w M' := h.keep (Same.refl H) m
theorem But.free {w p : Addr} {H H' : Hp} {M : Int} (b : But w H H') (h : Wel H' w M) (n : H' p = none) : H p = none := by
  cases q : H p with
  | none => rfl
  | some o =>
    by_cases e : p = w
    · subst e
      obtain ⟨_, _, _, z, _⟩ := h
      rw [z] at n; cases n
    · rw [b p o e q] at n; cases n
theorem Wel.ne {w p : Addr} {H : Hp} {M : Int} (h : Wel H w M) (n : H p = none) : p ≠ w := fun e => by
  subst e
  obtain ⟨_, _, _, z, _⟩ := h
  rw [z] at n; cases n
theorem Wel.tups {w : Addr} {H H' : Hp} {M : Int} (h : Wel H w M) (b : But w H H') : Tups H H' := by
  obtain ⟨_, _, _, z, _⟩ := h
  exact Tups.but b z
section
variable {P : Program} {w : World} {K : PySem.W.Frag} {mg : Str → Option Value} {base : Heap} {f : Addr} {fd : FuncData}
/-! ### _law_mixed -/
theorem mod_b (x m : Int) (h : 0 < m) : 0 ≤ x % m ∧ x % m < m := ⟨Int.emod_nonneg x (by omega), Int.emod_lt_of_pos x h⟩
def spMixed : Sp := fun vs H Q _ => ∃ cell k, vs = [.int cell, .int k] ∧ 0 ≤ k ∧ k ≤ 1000000000 ∧ ∀ r, 0 ≤ r → Q (.int r) H
abbrev s__law_mixed : Stmt := top 29
theorem sc__law_mixed : FnScope ["cell", "k", "number"] ["cell", "k"] (defScope s__law_mixed) := ⟨rfl, rfl, rfl, by decide +kernel, rfl, by decide +kernel, by decide +kernel⟩
theorem ok_mixed (F : Fun K "_law_mixed" "_law_mixed" s__law_mixed f fd) : FnOk P w K mg base CX0 1 f fd ["cell", "k"] spMixed := by
  refine F.ok sc__law_mixed (fun vs H Q E h => ?_) (fun cdv A outer s H vs Q E hr h => ?_)
  · obtain ⟨x, v, rfl, _⟩ := h
    rfl
  obtain ⟨cell, k, rfl, h0, h1, q⟩ := h
  refine ⟨_, (@pss_cons _ _ _ _ _ (@ps_set _ _ (2) _ _ _ _ (sc__law_mixed).nd rfl (Or.inl rfl) (@pe_op _ _ _ _ _ _ _ _ op_mod (@pe_op _ _ _ _ _ _ _ _ op_add (@pe_op _ _ _ _ _ _ _ _ op_add (@pe_op _ _ _ _ _ _ _ _ op_mod (@pv _ 0 _ _ (by rfl) (by first | exact Or.inl rfl | exact Or.inr ( Or.inl rfl ) | exact Or.inr ( Or.inr rfl )) (by decide) (by decide)) pe_int) (@pe_op _ _ _ _ _ _ _ _ op_mul (@pe_op _ _ _ _ _ _ _ _ op_mul pe_int (@pv _ 1 _ _ (by rfl) (by first | exact Or.inl rfl | exact Or.inr ( Or.inl rfl ) | exact Or.inr ( Or.inr rfl )) (by decide) (by decide))) (@pv _ 1 _ _ (by rfl) (by first | exact Or.inl rfl | exact Or.inr ( Or.inl rfl ) | exact Or.inr ( Or.inr rfl )) (by decide) (by decide)))) (@pe_op _ _ _ _ _ _ _ _ op_mul pe_int (@pv _ 1 _ _ (by rfl) (by first | exact Or.inl rfl | exact Or.inr ( Or.inl rfl ) | exact Or.inr ( Or.inr rfl )) (by decide) (by decide)))) pe_int) (by rfl) (by first | exact .inl rfl | exact .inr rfl | assumption)) (@pss_cons _ _ _ _ _ (@ps_set _ _ (2) _ _ _ _ (sc__law_mixed).nd rfl (Or.inl rfl) (@pe_op _ _ _ _ _ _ _ _ op_mod (@pe_op _ _ _ _ _ _ _ _ op_mul (@pv _ 2 _ _ (by rfl) (by first | exact Or.inl rfl | exact Or.inr ( Or.inl rfl ) | exact Or.inr ( Or.inr rfl )) (by decide) (by decide)) (@pv _ 2 _ _ (by rfl) (by first | exact Or.inl rfl | exact Or.inr ( Or.inl rfl ) | exact Or.inr ( Or.inr rfl )) (by decide) (by decide))) pe_int) (by rfl) (by first | exact .inl rfl | exact .inr rfl | assumption)) (@pss_one _ _ _ (@ps_ret _ _ _ _ (@pe_op _ _ _ _ _ _ _ _ op_fdivB (@pe_op _ _ _ _ _ _ _ _ op_mod (@pe_op _ _ _ _ _ _ _ _ op_mul (@pv _ 2 _ _ (by rfl) (by first | exact Or.inl rfl | exact Or.inr ( Or.inl rfl ) | exact Or.inr ( Or.inr rfl )) (by decide) (by decide)) (@pe_op _ _ _ _ _ _ _ _ op_add (@pv _ 2 _ _ (by rfl) (by first | exact Or.inl rfl | exact Or.inr ( Or.inl rfl ) | exact Or.inr ( Or.inr rfl )) (by decide) (by decide)) pe_int)) pe_int) pe_int))))), ?_⟩
  refine ⟨_, rfl, _, _, rfl, rfl, (show (0 : Int) < 2147483629 by decide), _, rfl, _, _, rfl, rfl, .inl ⟨by decide, by decide⟩, _, rfl, _, _, rfl, rfl, .inr ⟨by omega, by omega⟩, _, _, rfl, rfl, _, rfl, _, _, rfl, rfl, .inl ⟨by decide, by decide⟩,
    _, _, rfl, rfl, _, _, rfl, rfl, (show (0 : Int) < 2147483629 by decide), ?_⟩
  have hb := mod_b (cell % 2147483629 + 1000003 * k * k + 7919 * k) 2147483629 (by decide)
  revert hb
  generalize (cell % 2147483629 + 1000003 * k * k + 7919 * k) % 2147483629 = n1
  intro hb
  refine ⟨_, rfl, _, rfl, _, _, rfl, rfl, .inl ⟨by omega, by omega⟩, _, _, rfl, rfl, (show (0 : Int) < 2147483587 by decide), ?_⟩
  have hc := mod_b (n1 * n1) 2147483587 (by decide)
  revert hc
  generalize n1 * n1 % 2147483587 = n2
  intro hc
  refine ⟨_, rfl, _, rfl, _, _, rfl, rfl, _, _, rfl, rfl, .inl ⟨by omega, by omega⟩, _, _, rfl, rfl, (show (0 : Int) < 2147483563 by decide), _, _, rfl, rfl, ⟨by decide, by decide⟩, ?_⟩
  have hd := mod_b (n2 * (n2 + 40961)) 2147483563 (by decide)
  exact q _ (by omega)
/-! ### _law_well -/
def spWell : Sp := fun vs H Q _ => ∃ cell, vs = [.int cell] ∧ ∀ p a b H', Same H H' → H p = none → H' p = some (.lst [.int a, .int b, .int 0]) → Q (.ref p) H'
abbrev s__law_well : Stmt := top 30
theorem sc__law_well : FnScope ["cell"] ["cell"] (defScope s__law_well) := ⟨rfl, rfl, rfl, by decide +kernel, rfl, by decide +kernel, by decide +kernel⟩
theorem ok_well (F : Fun K "_law_well" "_law_well" s__law_well f fd) (B : Bu K mg) : FnOk P w K mg base CX0 1 f fd ["cell"] spWell := by
  refine F.ok sc__law_well (fun vs H Q E h => ?_) (fun cdv A outer s H vs Q E hr h => ?_)
  · obtain ⟨x, rfl, _⟩ := h
    rfl
  obtain ⟨cell, rfl, q⟩ := h
  refine ⟨_, (@pss_one _ _ _ (@ps_ret _ _ _ _ (@pe_lst _ _ _ _ (@pa_cons _ _ _ _ _ (@pe_op _ _ _ _ _ _ _ _ op_mul (@pv _ 0 _ _ (by rfl) (by first | exact Or.inl rfl | exact Or.inr ( Or.inl rfl ) | exact Or.inr ( Or.inr rfl )) (by decide) (by decide)) (@pe_callTy _ _ _ _ _ _ _ _ _ call_int1 rfl B.iint PyProof.Rows.boot_int (@pa_cons _ _ _ _ _ (@pe_cmpR _ _ _ _ _ _ _ _ op_ge (@pv _ 0 _ _ (by rfl) (by first | exact Or.inl rfl | exact Or.inr ( Or.inl rfl ) | exact Or.inr ( Or.inr rfl )) (by decide) (by decide)) (@pe_op _ _ _ _ _ _ _ _ op_pow pe_int pe_int) (nomark _)) pa_nil (by rfl)) (by decide) (by decide) (by rfl) (by rfl))) (@pa_cons _ _ _ _ _ (@pv _ 0 _ _ (by rfl) (by first | exact Or.inl rfl | exact Or.inr ( Or.inl rfl ) | exact Or.inr ( Or.inr rfl )) (by decide) (by decide)) (@pa_cons _ _ _ _ _ pe_int pa_nil (by rfl)) (by rfl)) (by rfl))))), ?_⟩
  refine ⟨_, rfl, _, rfl, _, _, rfl, rfl, ⟨by decide, by decide, by decide⟩, _, _, rfl, rfl, .inr ⟨_, rfl, _, _, rfl, rfl, .inr ?_, _, rfl, (by show 3 ≤ sizeLine; decide), fun p hp => q p _ _ _ (Same.new hp _) hp upd_same⟩⟩
  constructor <;> split <;> decide
/-! ### _law_draw -/
def spDraw : Sp := fun vs H Q _ => ∃ w m M, vs = [.ref w, .int m] ∧ 0 < m ∧ m < 2 ^ 63 ∧ Wel H w M ∧ M < 1000000000 ∧ ∀ r H', 0 ≤ r → r < m → But w H H' → Wel H' w (M + 1) → Q (.int r) H'
abbrev s__law_draw : Stmt := top 31
theorem sc__law_draw : FnScope ["well", "many", "got"] ["well", "many"] (defScope s__law_draw) := ⟨rfl, rfl, rfl, by decide +kernel, rfl, by decide +kernel, by decide +kernel⟩
theorem ok_draw (F : Fun K "_law_draw" "_law_draw" s__law_draw f fd) (C__law_mixed : Cal P w K mg base "_law_mixed" 1 ["cell", "k"] spMixed) : FnOk P w K mg base CX0 2 f fd ["well", "many"] spDraw := by
  refine F.ok sc__law_draw (fun vs H Q E h => ?_) (fun cdv A outer s H vs Q E hr h => ?_)
  · obtain ⟨x, m, M, rfl, _⟩ := h
    rfl
  obtain ⟨wl, m, M, rfl, h0, h1, ⟨a, b, c, e, c0, c1⟩, hM, q⟩ := h
  refine ⟨_, (@pss_cons _ _ _ _ _ (@ps_if _ _ _ _ _ _ _ _ (@pt_cmpR _ _ _ _ _ _ _ _ op_gt (@pe_ix _ _ _ _ _ _ _ ix_list (@pv _ 0 _ _ (by rfl) (by first | exact Or.inl rfl | exact Or.inr ( Or.inl rfl ) | exact Or.inr ( Or.inr rfl )) (by decide) (by decide)) pe_int (fun _ _ => rfl)) pe_int (nomark _)) (@pss_cons _ _ _ _ _ (@ps_set _ _ (2) _ _ _ _ (sc__law_draw).nd rfl (Or.inl rfl) (@pe_op _ _ _ _ _ _ _ _ op_mod (@pe_ix _ _ _ _ _ _ _ ix_list (@pv _ 0 _ _ (by rfl) (by first | exact Or.inl rfl | exact Or.inr ( Or.inl rfl ) | exact Or.inr ( Or.inr rfl )) (by decide) (by decide)) pe_int (fun _ _ => rfl)) (@pv _ 1 _ _ (by rfl) (by first | exact Or.inl rfl | exact Or.inr ( Or.inl rfl ) | exact Or.inr ( Or.inr rfl )) (by decide) (by decide))) (by rfl) (by first | exact .inl rfl | exact .inr rfl | assumption)) (@pss_cons _ _ _ _ _ (@ps_asg _ _ _ _ _ _ (@pe_op _ _ _ _ _ _ _ _ op_fdivB (@pe_ix _ _ _ _ _ _ _ ix_list (@pv _ 0 _ _ (by rfl) (by first | exact Or.inl rfl | exact Or.inr ( Or.inl rfl ) | exact Or.inr ( Or.inr rfl )) (by decide) (by decide)) pe_int (fun _ _ => rfl)) (@pv _ 1 _ _ (by rfl) (by first | exact Or.inl rfl | exact Or.inr ( Or.inl rfl ) | exact Or.inr ( Or.inr rfl )) (by decide) (by decide))) (@pg_sub _ _ _ _ _ _ _ (@pv _ 0 _ _ (by rfl) (by first | exact Or.inl rfl | exact Or.inr ( Or.inl rfl ) | exact Or.inr ( Or.inr rfl )) (by decide) (by decide)) pe_int set_list (by intro _; rfl)) (by rfl) (by rfl) (by rfl)) (@pss_one _ _ _ (@ps_ret _ _ _ _ (@pv _ 2 _ _ (by rfl) (by first | exact Or.inl rfl | exact Or.inr ( Or.inl rfl ) | exact Or.inr ( Or.inr rfl )) (by decide) (by decide)))))) pss_nil) (@pss_cons _ _ _ _ _ (@ps_asg _ _ _ _ _ _ (@pe_op _ _ _ _ _ _ _ _ op_add (@pe_ix _ _ _ _ _ _ _ ix_list (@pv _ 0 _ _ (by rfl) (by first | exact Or.inl rfl | exact Or.inr ( Or.inl rfl ) | exact Or.inr ( Or.inr rfl )) (by decide) (by decide)) pe_int (fun _ _ => rfl)) pe_int) (@pg_sub _ _ _ _ _ _ _ (@pv _ 0 _ _ (by rfl) (by first | exact Or.inl rfl | exact Or.inr ( Or.inl rfl ) | exact Or.inr ( Or.inr rfl )) (by decide) (by decide)) pe_int set_list (by intro _; rfl)) (by rfl) (by rfl) (by rfl)) (@pss_one _ _ _ (@ps_ret _ _ _ _ (@pe_op _ _ _ _ _ _ _ _ op_mod (@pe_cal _ _ _ _ _ _ _ _ _ _ _ C__law_mixed hr (by omega) rfl (@pa_cons _ _ _ _ _ (@pe_ix _ _ _ _ _ _ _ ix_list (@pv _ 0 _ _ (by rfl) (by first | exact Or.inl rfl | exact Or.inr ( Or.inl rfl ) | exact Or.inr ( Or.inr rfl )) (by decide) (by decide)) pe_int (fun _ _ => rfl)) (@pa_cons _ _ _ _ _ (@pe_ix _ _ _ _ _ _ _ ix_list (@pv _ 0 _ _ (by rfl) (by first | exact Or.inl rfl | exact Or.inr ( Or.inl rfl ) | exact Or.inr ( Or.inr rfl )) (by decide) (by decide)) pe_int (fun _ _ => rfl)) pa_nil (by rfl)) (by rfl)) (by decide) (by rfl) (by rfl)) (@pv _ 1 _ _ (by rfl) (by first | exact Or.inl rfl | exact Or.inr ( Or.inl rfl ) | exact Or.inr ( Or.inr rfl )) (by decide) (by decide))))))), ?_⟩
  refine ⟨_, rfl, wl, _, _, _, rfl, rfl, SqL.of e, rfl, _, _, rfl, rfl, _, rfl, ite2 (fun _ => ?_) (fun _ => ?_)⟩
  · refine ⟨_, rfl, wl, _, _, _, rfl, rfl, SqL.of e, rfl, _, rfl, _, _, rfl, rfl, h0, ?_⟩
    refine ⟨_, rfl, wl, _, _, _, rfl, rfl, SqL.of e, rfl, _, rfl, _, _, rfl, rfl, ⟨h0, by omega⟩, _, rfl, wl, _, _, 0, rfl, rfl, e, rfl, ?_⟩
    refine ⟨_, rfl, ?_⟩
    have z := mod_b a m h0
    exact q _ _ z.1 z.2 But.put ⟨_, _, _, upd_same, c0, by omega⟩
  · refine ⟨_, rfl, wl, _, _, _, rfl, rfl, SqL.of e, rfl, _, _, rfl, rfl, _, rfl, wl, _, _, 2, rfl, rfl, e, rfl, ?_⟩
    refine ⟨_, rfl, wl, _, _, _, rfl, rfl, SqL.of upd_same, rfl, _, rfl, wl, _, _, _, rfl, rfl, SqL.of upd_same, rfl, _, _, rfl, by omega, by omega, fun r hr0 => ?_⟩
    refine ⟨_, rfl, _, _, rfl, rfl, h0, ?_⟩
    have z := mod_b r m h0
    exact q _ _ z.1 z.2 But.put ⟨_, _, _, upd_same, by omega, by omega⟩
/-! ### _law_number -/
def spNumber : Sp := fun vs H Q _ => ∃ w M, vs = [.ref w] ∧ Wel H w M ∧ M < 999999000 ∧ ∀ i H', -1000000000000 < i → i < 1000000000000 → But w H H' → Wel H' w (M + 7) → Q (.int i) H'
theorem at6 {a b c d e f' : Int} {k : Int} (h0 : 0 ≤ k) (h1 : k < 6) (P : Int → Prop) (pa : P a) (pb : P b) (pc : P c) (pd : P d) (pe : P e) (pf : P f') : ∃ z, atI [V.int a, .int b, .int c, .int d, .int e, .int f'] k = some (.int z) ∧ P z := by
  have : k = 0 ∨ k = 1 ∨ k = 2 ∨ k = 3 ∨ k = 4 ∨ k = 5 := by omega
  rcases this with rfl | rfl | rfl | rfl | rfl | rfl
  · exact ⟨a, rfl, pa⟩
  · exact ⟨b, rfl, pb⟩
  · exact ⟨c, rfl, pc⟩
  · exact ⟨d, rfl, pd⟩
  · exact ⟨e, rfl, pe⟩
  · exact ⟨f', rfl, pf⟩
theorem at10 {k : Int} (h0 : 0 ≤ k) (h1 : k < 10) : ∃ z : Int, atI [V.int 0, .int 0, .int 0, .int 1, .int 1, .int 2, .int 2, .int 3, .int 4, .int 5] k = some (.int z) ∧ 0 ≤ z ∧ z < 6 := by
  have : k = 0 ∨ k = 1 ∨ k = 2 ∨ k = 3 ∨ k = 4 ∨ k = 5 ∨ k = 6 ∨ k = 7 ∨ k = 8 ∨ k = 9 := by omega
  rcases this with rfl | rfl | rfl | rfl | rfl | rfl | rfl | rfl | rfl | rfl <;> exact ⟨_, rfl, by decide, by decide⟩
abbrev s__law_number : Stmt := top 32
theorem sc__law_number : FnScope ["well", "some"] ["well"] (defScope s__law_number) := ⟨rfl, rfl, rfl, by decide +kernel, rfl, by decide +kernel, by decide +kernel⟩
theorem ok_number (F : Fun K "_law_number" "_law_number" s__law_number f fd) (C__law_draw : Cal P w K mg base "_law_draw" 2 ["well", "many"] spDraw) : FnOk P w K mg base CX0 3 f fd ["well"] spNumber := by
  refine F.ok sc__law_number (fun vs H Q E h => ?_) (fun cdv A outer s H vs Q E hr h => ?_)
  · obtain ⟨x, M, rfl, _⟩ := h
    rfl
  obtain ⟨wl, M, rfl, hw, hM, q⟩ := h
  refine ⟨_, (@pss_cons _ _ _ _ _ (@ps_set _ _ (1) _ _ _ _ (sc__law_number).nd rfl (Or.inl rfl) (@pe_lst _ _ _ _ (@pa_cons _ _ _ _ _ (@pe_cal _ _ _ _ _ _ _ _ _ _ _ C__law_draw hr (by omega) rfl (@pa_cons _ _ _ _ _ (@pv _ 0 _ _ (by rfl) (by first | exact Or.inl rfl | exact Or.inr ( Or.inl rfl ) | exact Or.inr ( Or.inr rfl )) (by decide) (by decide)) (@pa_cons _ _ _ _ _ pe_int pa_nil (by rfl)) (by rfl)) (by decide) (by rfl) (by rfl)) (@pa_cons _ _ _ _ _ (@pe_cal _ _ _ _ _ _ _ _ _ _ _ C__law_draw hr (by omega) rfl (@pa_cons _ _ _ _ _ (@pv _ 0 _ _ (by rfl) (by first | exact Or.inl rfl | exact Or.inr ( Or.inl rfl ) | exact Or.inr ( Or.inr rfl )) (by decide) (by decide)) (@pa_cons _ _ _ _ _ pe_int pa_nil (by rfl)) (by rfl)) (by decide) (by rfl) (by rfl)) (@pa_cons _ _ _ _ _ (@pe_op _ _ _ _ _ _ _ _ op_sub pe_int (@pe_cal _ _ _ _ _ _ _ _ _ _ _ C__law_draw hr (by omega) rfl (@pa_cons _ _ _ _ _ (@pv _ 0 _ _ (by rfl) (by first | exact Or.inl rfl | exact Or.inr ( Or.inl rfl ) | exact Or.inr ( Or.inr rfl )) (by decide) (by decide)) (@pa_cons _ _ _ _ _ pe_int pa_nil (by rfl)) (by rfl)) (by decide) (by rfl) (by rfl))) (@pa_cons _ _ _ _ _ (@pe_cal _ _ _ _ _ _ _ _ _ _ _ C__law_draw hr (by omega) rfl (@pa_cons _ _ _ _ _ (@pv _ 0 _ _ (by rfl) (by first | exact Or.inl rfl | exact Or.inr ( Or.inl rfl ) | exact Or.inr ( Or.inr rfl )) (by decide) (by decide)) (@pa_cons _ _ _ _ _ (@pe_op _ _ _ _ _ _ _ _ op_pow pe_int pe_int) pa_nil (by rfl)) (by rfl)) (by decide) (by rfl) (by rfl)) pa_nil (by rfl)) (by rfl)) (by rfl)) (by rfl))) (by rfl) (by first | exact .inl rfl | exact .inr rfl | assumption)) (@pss_cons _ _ _ _ _ (@ps_set _ _ (1) _ _ _ _ (sc__law_number).nd rfl (Or.inl rfl) (@pe_op _ _ _ _ _ _ _ _ op_cat (@pv _ 1 _ _ (by rfl) (by first | exact Or.inl rfl | exact Or.inr ( Or.inl rfl ) | exact Or.inr ( Or.inr rfl )) (by decide) (by decide)) (@pe_lst _ _ _ _ (@pa_cons _ _ _ _ _ (@pe_op _ _ _ _ _ _ _ _ op_sub pe_int (@pe_cal _ _ _ _ _ _ _ _ _ _ _ C__law_draw hr (by omega) rfl (@pa_cons _ _ _ _ _ (@pv _ 0 _ _ (by rfl) (by first | exact Or.inl rfl | exact Or.inr ( Or.inl rfl ) | exact Or.inr ( Or.inr rfl )) (by decide) (by decide)) (@pa_cons _ _ _ _ _ (@pe_op _ _ _ _ _ _ _ _ op_pow pe_int pe_int) pa_nil (by rfl)) (by rfl)) (by decide) (by rfl) (by rfl))) (@pa_cons _ _ _ _ _ (@pe_cal _ _ _ _ _ _ _ _ _ _ _ C__law_draw hr (by omega) rfl (@pa_cons _ _ _ _ _ (@pv _ 0 _ _ (by rfl) (by first | exact Or.inl rfl | exact Or.inr ( Or.inl rfl ) | exact Or.inr ( Or.inr rfl )) (by decide) (by decide)) (@pa_cons _ _ _ _ _ pe_int pa_nil (by rfl)) (by rfl)) (by decide) (by rfl) (by rfl)) pa_nil (by rfl)) (by rfl)))) (by rfl) (by first | exact .inl rfl | exact .inr rfl | assumption)) (@pss_one _ _ _ (@ps_ret _ _ _ _ (@pe_ix _ _ _ _ _ _ _ ix_list (@pv _ 1 _ _ (by rfl) (by first | exact Or.inl rfl | exact Or.inr ( Or.inl rfl ) | exact Or.inr ( Or.inr rfl )) (by decide) (by decide)) (@pe_ix _ _ _ _ _ _ _ ix_list (@pe_lst _ _ _ _ (@pa_cons _ _ _ _ _ pe_int (@pa_cons _ _ _ _ _ pe_int (@pa_cons _ _ _ _ _ pe_int (@pa_cons _ _ _ _ _ pe_int (@pa_cons _ _ _ _ _ pe_int (@pa_cons _ _ _ _ _ pe_int (@pa_cons _ _ _ _ _ pe_int (@pa_cons _ _ _ _ _ pe_int (@pa_cons _ _ _ _ _ pe_int (@pa_cons _ _ _ _ _ pe_int pa_nil (by rfl)) (by rfl)) (by rfl)) (by rfl)) (by rfl)) (by rfl)) (by rfl)) (by rfl)) (by rfl)) (by rfl))) (@pe_cal _ _ _ _ _ _ _ _ _ _ _ C__law_draw hr (by omega) rfl (@pa_cons _ _ _ _ _ (@pv _ 0 _ _ (by rfl) (by first | exact Or.inl rfl | exact Or.inr ( Or.inl rfl ) | exact Or.inr ( Or.inr rfl )) (by decide) (by decide)) (@pa_cons _ _ _ _ _ pe_int pa_nil (by rfl)) (by rfl)) (by decide) (by rfl) (by rfl)) (fun _ _ => rfl)) (fun _ _ => rfl)))))), ?_⟩
  refine ⟨_, rfl, wl, 10, M, rfl, by decide, by decide, hw, by omega, fun r1 H1 a1 b1 g1 w1 => ?_⟩
  refine ⟨_, rfl, wl, 4, _, rfl, by decide, by decide, w1, by omega, fun r2 H2 a2 b2 g2 w2 => ?_⟩
  refine ⟨_, rfl, wl, 10, _, rfl, by decide, by decide, w2, by omega, fun r3 H3 a3 b3 g3 w3 => ⟨_, _, rfl, rfl, ?_⟩⟩
  refine ⟨_, rfl, _, _, rfl, rfl, ⟨by decide, by decide, by decide⟩, wl, 1000000000000, _, rfl, by decide, by decide, w3, by omega, fun r4 H4 a4 b4 g4 w4 => ?_⟩
  refine ⟨(by show 4 ≤ sizeLine; decide), fun p1 n1 => ?_⟩
  have w4' : Wel (upd H4 p1 (.lst [.int r1, .int r2, .int (0 - r3), .int r4])) wl _ := w4.keep (Same.new n1 _) (Int.le_refl _)
  refine ⟨_, rfl, _, rfl, _, _, rfl, rfl, ⟨by decide, by decide, by decide⟩, wl, 1000000000000, _, rfl, by decide, by decide, w4', by omega, fun r5 H5 a5 b5 g5 w5 => ⟨_, _, rfl, rfl, ?_⟩⟩
  refine ⟨_, rfl, wl, 100, _, rfl, by decide, by decide, w5, by omega, fun r6 H6 a6 b6 g6 w6 => ?_⟩
  refine ⟨(by show 2 ≤ sizeLine; decide), fun p2 n2 => ?_⟩
  have ne1 : p1 ≠ wl := w4.ne n1
  have e1 : H6 p1 = some (.lst [.int r1, .int r2, .int (0 - r3), .int r4]) := g6 _ _ ne1 (g5 _ _ ne1 upd_same)
  have w6' : Wel (upd H6 p2 (.lst [.int (0 - r5), .int r6])) wl _ := w6.keep (Same.new n2 _) (Int.le_refl _)
  refine ⟨p1, p2, _, _, rfl, rfl, Same.new n2 _ _ _ e1, upd_same, (by show 6 ≤ sizeLine; decide), fun p3 n3 => ?_⟩
  have w7 := w6'.keep (Same.new n3 (.lst ([.int r1, .int r2, .int (0 - r3), .int r4] ++ [.int (0 - r5), .int r6]))) (Int.le_refl _)
  refine ⟨_, rfl, (by show 10 ≤ sizeLine; decide), fun p4 n4 => ?_⟩
  have w8 := w7.keep (Same.new n4 (.lst [.int 0, .int 0, .int 0, .int 1, .int 1, .int 2, .int 2, .int 3, .int 4, .int 5])) (Int.le_refl _)
  refine ⟨_, rfl, wl, 10, _, rfl, by decide, by decide, w8, by omega, fun r7 H7 a7 b7 g7 w9 => ?_⟩
  have ne3 : p3 ≠ wl := w6'.ne n3
  have ne4 : p4 ≠ wl := w7.ne n4
  obtain ⟨z, hz, z0, z1⟩ := at10 a7 b7
  refine ⟨p4, _, _, _, rfl, rfl, SqL.of (g7 _ _ ne4 upd_same), hz, ?_⟩
  obtain ⟨y, hy, y0, y1⟩ := at6 (a := r1) (b := r2) (c := 0 - r3) (d := r4) (e := 0 - r5) (f' := r6) z0 z1 (fun i => -1000000000000 < i ∧ i < 1000000000000) (by omega) (by omega) (by omega) (by omega) (by omega) (by omega)
  refine ⟨p3, _, _, _, rfl, rfl, SqL.of (g7 _ _ ne3 (Same.new n4 _ _ _ upd_same)), hy, ?_⟩
  refine q y H7 y0 y1 ?_ (w9.more (by omega))
  exact ((((((((((g1.trans g2).trans g3).trans g4).trans (But.new n1 _)).trans g5).trans g6).trans (But.new n2 _)).trans (But.new n3 _)).trans (But.new n4 _)).trans g7)
end
end Put

set_option Elab.async false
set_option linter.all false
set_option maxRecDepth 100000
set_option maxHeartbeats 4000000
namespace Put
open PySem L2
section
variable {P : Program} {w : World} {K : PySem.W.Frag} {mg : Str → Option Value} {base : Heap} {f : Addr} {fd : FuncData}
/-! ### _law_row -/
def Small (ns : List Int) : Prop := ∀ i ∈ ns, -1000000000000 < i ∧ i < 1000000000000
def spRow : Sp := fun vs H Q _ => ∃ w n M, vs = [.ref w, .int n] ∧ 0 ≤ n ∧ n ≤ 20 ∧ Wel H w M ∧ M < 999990000 ∧
  ∀ p ns H', But w H H' → Wel H' w (M + 200) → H p = none → H' p = some (.lst (ns.map V.int)) → (ns.length : Int) = n → Small ns → Q (.ref p) H'
abbrev s__law_row : Stmt := top 33
theorem sc__law_row : FnScope ["well", "many"] ["well", "many"] (defScope s__law_row) := ⟨rfl, rfl, rfl, by decide +kernel, rfl, by decide +kernel, by decide +kernel⟩
theorem rep_one (i : Int) (k : Nat) : (List.replicate k [V.int i]).flatten = (List.replicate k i).map V.int := by
  induction k with
  | zero => rfl
  | succ k ih => rw [List.replicate_succ, List.flatten_cons, ih]; rfl
theorem ok_row (F : Fun K "_law_row" "_law_row" s__law_row f fd) (B : Bu K mg) (C__law_draw : Cal P w K mg base "_law_draw" 2 ["well", "many"] spDraw) (C__law_number : Cal P w K mg base "_law_number" 3 ["well"] spNumber) :
    FnOk P w K mg base CX0 4 f fd ["well", "many"] spRow := by
  refine F.ok sc__law_row (fun vs H Q E h => ?_) (fun cdv A outer s H vs Q E hr h => ?_)
  · obtain ⟨x, m, M, rfl, _⟩ := h
    rfl
  obtain ⟨wl, n, M, rfl, h0, h1, hw, hM, q⟩ := h
  refine ⟨_, (@pss_cons _ _ _ _ _ (@ps_if _ _ _ _ _ _ _ _ (@pt_cmpR _ _ _ _ _ _ _ _ op_eq (@pe_cal _ _ _ _ _ _ _ _ _ _ _ C__law_draw hr (by omega) rfl (@pa_cons _ _ _ _ _ (@pv _ 0 _ _ (by rfl) (by first | exact Or.inl rfl | exact Or.inr ( Or.inl rfl ) | exact Or.inr ( Or.inr rfl )) (by decide) (by decide)) (@pa_cons _ _ _ _ _ pe_int pa_nil (by rfl)) (by rfl)) (by decide) (by rfl) (by rfl)) pe_int (nomark _)) (@pss_one _ _ _ (@ps_ret _ _ _ _ (@pe_op _ _ _ _ _ _ _ _ op_rep (@pe_lst _ _ _ _ (@pa_cons _ _ _ _ _ (@pe_cal _ _ _ _ _ _ _ _ _ _ _ C__law_number hr (by omega) rfl (@pa_cons _ _ _ _ _ (@pv _ 0 _ _ (by rfl) (by first | exact Or.inl rfl | exact Or.inr ( Or.inl rfl ) | exact Or.inr ( Or.inr rfl )) (by decide) (by decide)) pa_nil (by rfl)) (by decide) (by rfl) (by rfl)) pa_nil (by rfl))) (@pv _ 1 _ _ (by rfl) (by first | exact Or.inl rfl | exact Or.inr ( Or.inl rfl ) | exact Or.inr ( Or.inr rfl )) (by decide) (by decide))))) pss_nil) (@pss_one _ _ _ (@ps_ret _ _ _ _ (@pe_lc _ _ _ _ _ _ _ _ (["k", "well"]) ([none, some 0]) _ _ _ _ rfl (@pi_range1 _ _ _ _ _ _ rfl B.irange (@pa_cons _ _ _ _ _ (@pv _ 1 _ _ (by rfl) (by first | exact Or.inl rfl | exact Or.inr ( Or.inl rfl ) | exact Or.inr ( Or.inr rfl )) (by decide) (by decide)) pa_nil (by rfl)) (by rfl)) rfl ⟨rfl, trivial⟩ ⟨⟨rfl, Or.inl rfl, Or.inl rfl⟩, trivial⟩ (fun _ _ _ _ => ⟨(@pg_name _ _ (0) _ (show List.Nodup (["k", "well"] : List Str) by decide +kernel) rfl (Or.inl rfl) (by first | exact .inl rfl | exact .inr rfl | assumption)), pifs_nil, (@pe_cal _ _ _ _ _ _ _ _ _ _ _ C__law_number hr (by omega) rfl (@pa_cons _ _ _ _ _ (@pv _ 1 _ _ (by rfl) (by first | exact Or.inl rfl | exact Or.inr ( Or.inl rfl ) | exact Or.inr ( Or.inr rfl )) (by decide) (by decide)) pa_nil (by rfl)) (by decide) (by rfl) (by rfl))⟩) (by rfl) (by rfl) (by rfl) (by rfl) (by intro _; rfl))))), ?_⟩
  refine ⟨_, rfl, wl, 8, M, rfl, by decide, by decide, hw, by omega, fun r1 H1 a1 b1 g1 w1 => ⟨rfl, _, rfl, ite2 (fun _ => ?_) (fun _ => ?_)⟩⟩
  · refine ⟨_, rfl, wl, _, rfl, w1, by omega, fun i H2 i0 i1 g2 w2 => ⟨(by show 1 ≤ sizeLine; decide), fun p1 n1 => ?_⟩⟩
    refine ⟨_, rfl, p1, n, _, rfl, rfl, upd_same, by omega, by omega, le_line (by show 1 * n.toNat ≤ 1000; omega), fun p2 n2 => ?_⟩
    have w3 := w2.keep (Same.new n1 (.lst [.int i])) (Int.le_refl _)
    have w4 := w3.keep (Same.new n2 (.lst (List.replicate n.toNat [V.int i]).flatten)) (Int.le_refl _)
    refine q p2 (List.replicate n.toNat i) _ (((g1.trans g2).trans (But.new n1 _)).trans (But.new n2 _)) (w4.more (by omega)) (But.free ((g1.trans g2).trans (But.new n1 (.lst [.int i]))) w3 n2) ?_ (by rw [List.length_replicate]; omega) ?_
    · rw [upd_same, rep_one]
    · intro z hz
      rw [List.eq_of_mem_replicate hz]
      exact ⟨i0, i1⟩
  · refine ⟨_, rfl, n, rfl, by omega, by omega, ?_⟩
    refine ⟨fun i m ys H' => i ≤ n.toNat ∧ m = n.toNat - i ∧ ∃ ns : List Int, ys = ns.map V.int ∧ ns.length = i ∧ Small ns ∧ But wl H H' ∧ Wel H' wl (M + 1 + 7 * i), ⟨_, Nat.zero_le _, rfl, [], rfl, rfl, (fun _ z => nomatch z), g1, w1.more (by omega)⟩, ?_⟩
    rintro i m ys H' ⟨hi, rfl, ns, rfl, hl, hs, hb, hw'⟩
    by_cases hlt : i < n.toNat
    · refine .inr ⟨hlt, small1000 (by rw [List.length_map]; omega), fun x H2 y => ?_⟩
      obtain ⟨rfl, rfl⟩ := y
      refine ⟨_, rfl, wl, _, rfl, hw', by omega, fun z H3 z0 z1 g3 w3 => ?_⟩
      refine ⟨n.toNat - (i + 1), by omega, hlt, rfl, ns ++ [z], by rw [List.map_append]; rfl, by rw [List.length_append, List.length_singleton, hl], ?_, hb.trans g3, w3.more (by omega)⟩
      intro u hu
      rcases List.mem_append.mp hu with hu | hu
      · exact hs u hu
      · rw [List.mem_singleton.mp hu]; exact ⟨z0, z1⟩
    · refine .inl ⟨Nat.not_lt.mp hlt, fun p hp => ?_⟩
      refine q p ns _ (hb.trans (But.new hp _)) ((hw'.keep (Same.new hp _) (Int.le_refl _)).more (by omega)) (But.free hb hw' hp) upd_same (by omega) hs
/-! ### _law_signs -/
def spLawSigns : Sp := fun vs H Q _ => ∃ w M, vs = [.ref w] ∧ Wel H w M ∧ M < 999990000 ∧ ∀ gs H', 1 ≤ gs.length → gs.length ≤ 3 → But w H H' → Wel H' w (M + 1) → Q (.str (sgText gs)) H'
theorem at9 {k : Int} (h0 : 0 ≤ k) (h1 : k < 9) : ∃ gs : List Sg, atI [V.str "+-*", .str "+-*", .str "+-*", .str "+", .str "-", .str "*", .str "+-", .str "+*", .str "-*"] k = some (.str (sgText gs)) ∧ 1 ≤ gs.length ∧ gs.length ≤ 3 := by
  have : k = 0 ∨ k = 1 ∨ k = 2 ∨ k = 3 ∨ k = 4 ∨ k = 5 ∨ k = 6 ∨ k = 7 ∨ k = 8 := by omega
  rcases this with rfl | rfl | rfl | rfl | rfl | rfl | rfl | rfl | rfl
  · exact ⟨[.plus, .minus, .times], by rfl, by decide, by decide⟩
  · exact ⟨[.plus, .minus, .times], by rfl, by decide, by decide⟩
  · exact ⟨[.plus, .minus, .times], by rfl, by decide, by decide⟩
  · exact ⟨[.plus], by rfl, by decide, by decide⟩
  · exact ⟨[.minus], by rfl, by decide, by decide⟩
  · exact ⟨[.times], by rfl, by decide, by decide⟩
  · exact ⟨[.plus, .minus], by rfl, by decide, by decide⟩
  · exact ⟨[.plus, .times], by rfl, by decide, by decide⟩
  · exact ⟨[.minus, .times], by rfl, by decide, by decide⟩
abbrev s__law_signs : Stmt := top 34
theorem sc__law_signs : FnScope ["well"] ["well"] (defScope s__law_signs) := ⟨rfl, rfl, rfl, by decide +kernel, rfl, by decide +kernel, by decide +kernel⟩
theorem ok_law_signs (F : Fun K "_law_signs" "_law_signs" s__law_signs f fd) (C__law_draw : Cal P w K mg base "_law_draw" 2 ["well", "many"] spDraw) : FnOk P w K mg base CX0 3 f fd ["well"] spLawSigns := by
  refine F.ok sc__law_signs (fun vs H Q E h => ?_) (fun cdv A outer s H vs Q E hr h => ?_)
  · obtain ⟨x, M, rfl, _⟩ := h
    rfl
  obtain ⟨wl, M, rfl, hw, hM, q⟩ := h
  refine ⟨_, (@pss_one _ _ _ (@ps_ret _ _ _ _ (@pe_ix _ _ _ _ _ _ _ ix_list (@pe_lst _ _ _ _ (@pa_cons _ _ _ _ _ pe_str (@pa_cons _ _ _ _ _ pe_str (@pa_cons _ _ _ _ _ pe_str (@pa_cons _ _ _ _ _ pe_str (@pa_cons _ _ _ _ _ pe_str (@pa_cons _ _ _ _ _ pe_str (@pa_cons _ _ _ _ _ pe_str (@pa_cons _ _ _ _ _ pe_str (@pa_cons _ _ _ _ _ pe_str pa_nil (by rfl)) (by rfl)) (by rfl)) (by rfl)) (by rfl)) (by rfl)) (by rfl)) (by rfl)) (by rfl))) (@pe_cal _ _ _ _ _ _ _ _ _ _ _ C__law_draw hr (by omega) rfl (@pa_cons _ _ _ _ _ (@pv _ 0 _ _ (by rfl) (by first | exact Or.inl rfl | exact Or.inr ( Or.inl rfl ) | exact Or.inr ( Or.inr rfl )) (by decide) (by decide)) (@pa_cons _ _ _ _ _ pe_int pa_nil (by rfl)) (by rfl)) (by decide) (by rfl) (by rfl)) (fun _ _ => rfl)))), ?_⟩
  refine ⟨(by show 9 ≤ sizeLine; decide), fun p1 n1 => ?_⟩
  have w1 := hw.keep (Same.new n1 (.lst [.str "+-*", .str "+-*", .str "+-*", .str "+", .str "-", .str "*", .str "+-", .str "+*", .str "-*"])) (Int.le_refl _)
  refine ⟨_, rfl, wl, 9, _, rfl, by decide, by decide, w1, by omega, fun r1 H1 a1 b1 g1 w2 => ?_⟩
  obtain ⟨gs, hg, l1, l2⟩ := at9 a1 b1
  exact ⟨p1, _, _, _, rfl, rfl, SqL.of (g1 _ _ (hw.ne n1) upd_same), hg, q gs H1 l1 l2 ((But.new n1 _).trans g1) w2⟩
/-! ### _law_way -/
theorem str_toList (x y : Str) : (x ++ y).cps.toList = x.cps.toList ++ y.cps.toList := by
  obtain ⟨a⟩ := x; obtain ⟨b⟩ := y
  show (a ++ b).toList = _
  rw [Array.toList_append]
def Sg.code : Sg → Nat
  | .plus => 43
  | .minus => 45
  | .times => 42
theorem sg_str_code (g : Sg) : g.str = ⟨#[g.code]⟩ := by cases g <;> rfl
theorem sgText_codes : ∀ gs : List Sg, (sgText gs).cps.toList = gs.map Sg.code
  | [] => rfl
  | g :: r => by
    show (g.str ++ sgText r).cps.toList = g.code :: r.map Sg.code
    rw [str_toList, sgText_codes r, sg_str_code]; rfl
theorem at_sg {gs : List Sg} {k : Int} (h0 : 0 ≤ k) (h1 : k < (gs.length : Nat)) : ∃ g : Sg, atI (sgText gs).cps.toList k = some g.code ∧ g ∈ gs := by
  obtain ⟨j, rfl⟩ := Int.eq_ofNat_of_zero_le h0
  have hj : j < gs.length := by omega
  refine ⟨gs[j], atI_nat ?_, List.getElem_mem hj⟩
  rw [sgText_codes, List.getElem?_map, List.getElem?_eq_getElem hj]; rfl
def Wy.within (gs : List Sg) : Wy → Prop
  | .num _ => True
  | .node g l r => g ∈ gs ∧ l.within gs ∧ r.within gs
def spWay (n : Nat) : Sp := fun vs H Q _ => ∃ w r gs ns M, vs = [.ref w, .ref r, .str (sgText gs)] ∧ H r = some (.lst (ns.map V.int)) ∧ r ≠ w ∧ 1 ≤ ns.length ∧ ns.length ≤ n ∧ n ≤ 20 ∧ 1 ≤ gs.length ∧ gs.length ≤ 3 ∧ Wel H w M ∧ M + 4 * ns.length - 4 < 999999000 ∧
  ∀ v wy H', WyIn H' wy v → wy.nums = ns → wy.within gs → But w H H' → Wel H' w (M + 4 * ns.length - 4) → Q v H'
theorem at3 {a b c : Int} {k : Int} (h0 : 0 ≤ k) (h1 : k < 3) (P : Int → Prop) (pa : P a) (pb : P b) (pc : P c) : ∃ z, atI [V.int a, .int b, .int c] k = some (.int z) ∧ P z := by
  have : k = 0 ∨ k = 1 ∨ k = 2 := by omega
  rcases this with rfl | rfl | rfl
  · exact ⟨a, rfl, pa⟩
  · exact ⟨b, rfl, pb⟩
  · exact ⟨c, rfl, pc⟩
theorem cut_take (ns : List Int) (c : Nat) (h : c ≤ ns.length) : cutV (ns.map V.int) none (some (c : Int)) = (ns.take c).map V.int := by
  have hl : (ns.map V.int).length = ns.length := List.length_map _
  have e0 : HT.sIx ns.length 0 none = 0 := by simp [HT.sIx]
  have e1 : HT.sIx ns.length ns.length (some (c : Int)) = c := by
    simp only [HT.sIx]
    split <;> omega
  unfold cutV
  rw [hl, e0, e1, List.drop_zero, List.map_take]
  rfl
theorem cut_drop (ns : List Int) (c : Nat) (h : c ≤ ns.length) : cutV (ns.map V.int) (some (c : Int)) none = (ns.drop c).map V.int := by
  have hl : (ns.map V.int).length = ns.length := List.length_map _
  have e0 : HT.sIx ns.length ns.length none = ns.length := by simp [HT.sIx]
  have e1 : HT.sIx ns.length 0 (some (c : Int)) = c := by
    simp only [HT.sIx]
    split <;> omega
  unfold cutV
  rw [hl, e0, e1, List.map_drop, List.take_of_length_le (by rw [List.length_drop, hl]; exact Nat.le_refl _)]
abbrev s__law_way : Stmt := top 35
theorem sc__law_way : FnScope ["well", "row", "signs", "cut", "sign"] ["well", "row", "signs"] (defScope s__law_way) := ⟨rfl, rfl, rfl, by decide +kernel, rfl, by decide +kernel, by decide +kernel⟩
theorem ok_way (F : Fun K "_law_way" "_law_way" s__law_way f fd) (bF : Binds K fd ["well", "row", "signs"] []) (mF : mg "_law_way" = some (.ref f)) (B : Bu K mg) (C__law_draw : Cal P w K mg base "_law_draw" 2 ["well", "many"] spDraw) :
    ∀ n, FnOk P w K mg base CX0 (n + 2) f fd ["well", "row", "signs"] (spWay n) := by
  intro n
  induction n with
  | zero =>
    refine ⟨fun vs H Q E h => ?_, fun A outer s H args us vs Q E _ _ _ _ h => ?_⟩
    · obtain ⟨x, r, gs, ns, M, rfl, _⟩ := h
      rfl
    · obtain ⟨x, r, gs, ns, M, _, _, _, h1, h2, _⟩ := h
      omega
  | succ n ih =>
    have C__law_way : Cal P w K mg base "_law_way" (n + 2) ["well", "row", "signs"] (spWay n) := ⟨f, fd, ih, bF, F.kp, mF⟩
    refine F.ok sc__law_way (fun vs H Q E h => ?_) (fun cdv A outer s H vs Q E hr h => ?_)
    · obtain ⟨x, r, gs, ns, M, rfl, _⟩ := h
      rfl
    obtain ⟨wl, r, gs, ns, M, rfl, er, nr, h1, h2, h20, g1, g3, hw, hM, q⟩ := h
    refine ⟨_, (@pss_cons _ _ _ _ _ (@ps_if _ _ _ _ _ _ _ _ (@pt_cmpR _ _ _ _ _ _ _ _ op_eq (@pe_callB _ _ _ _ _ _ _ _ _ call_len_seq rfl B.ilen PySem.boot_len (@pa_cons _ _ _ _ _ (@pv _ 1 _ _ (by rfl) (by first | exact Or.inl rfl | exact Or.inr ( Or.inl rfl ) | exact Or.inr ( Or.inr rfl )) (by decide) (by decide)) pa_nil (by rfl)) (by decide) (by decide) (by rfl) (by rfl)) pe_int (nomark _)) (@pss_one _ _ _ (@ps_ret _ _ _ _ (@pe_ix _ _ _ _ _ _ _ ix_list (@pv _ 1 _ _ (by rfl) (by first | exact Or.inl rfl | exact Or.inr ( Or.inl rfl ) | exact Or.inr ( Or.inr rfl )) (by decide) (by decide)) pe_int (fun _ _ => rfl)))) pss_nil) (@pss_cons _ _ _ _ _ (@ps_set _ _ (3) _ _ _ _ (sc__law_way).nd rfl (Or.inl rfl) (@pe_ix _ _ _ _ _ _ _ ix_list (@pe_lst _ _ _ _ (@pa_cons _ _ _ _ _ (@pe_op _ _ _ _ _ _ _ _ op_add pe_int (@pe_cal _ _ _ _ _ _ _ _ _ _ _ C__law_draw hr (by omega) rfl (@pa_cons _ _ _ _ _ (@pv _ 0 _ _ (by rfl) (by first | exact Or.inl rfl | exact Or.inr ( Or.inl rfl ) | exact Or.inr ( Or.inr rfl )) (by decide) (by decide)) (@pa_cons _ _ _ _ _ (@pe_op _ _ _ _ _ _ _ _ op_sub (@pe_callB _ _ _ _ _ _ _ _ _ call_len_seq rfl B.ilen PySem.boot_len (@pa_cons _ _ _ _ _ (@pv _ 1 _ _ (by rfl) (by first | exact Or.inl rfl | exact Or.inr ( Or.inl rfl ) | exact Or.inr ( Or.inr rfl )) (by decide) (by decide)) pa_nil (by rfl)) (by decide) (by decide) (by rfl) (by rfl)) pe_int) pa_nil (by rfl)) (by rfl)) (by decide) (by rfl) (by rfl))) (@pa_cons _ _ _ _ _ pe_int (@pa_cons _ _ _ _ _ (@pe_op _ _ _ _ _ _ _ _ op_sub (@pe_callB _ _ _ _ _ _ _ _ _ call_len_seq rfl B.ilen PySem.boot_len (@pa_cons _ _ _ _ _ (@pv _ 1 _ _ (by rfl) (by first | exact Or.inl rfl | exact Or.inr ( Or.inl rfl ) | exact Or.inr ( Or.inr rfl )) (by decide) (by decide)) pa_nil (by rfl)) (by decide) (by decide) (by rfl) (by rfl)) pe_int) pa_nil (by rfl)) (by rfl)) (by rfl))) (@pe_op _ _ _ _ _ _ _ _ op_fdivB (@pe_cal _ _ _ _ _ _ _ _ _ _ _ C__law_draw hr (by omega) rfl (@pa_cons _ _ _ _ _ (@pv _ 0 _ _ (by rfl) (by first | exact Or.inl rfl | exact Or.inr ( Or.inl rfl ) | exact Or.inr ( Or.inr rfl )) (by decide) (by decide)) (@pa_cons _ _ _ _ _ pe_int pa_nil (by rfl)) (by rfl)) (by decide) (by rfl) (by rfl)) pe_int) (fun _ _ => rfl)) (by rfl) (by first | exact .inl rfl | exact .inr rfl | assumption)) (@pss_cons _ _ _ _ _ (@ps_set _ _ (4) _ _ _ _ (sc__law_way).nd rfl (Or.inl rfl) (@pe_ix _ _ _ _ _ _ _ ix_str (@pv _ 2 _ _ (by rfl) (by first | exact Or.inl rfl | exact Or.inr ( Or.inl rfl ) | exact Or.inr ( Or.inr rfl )) (by decide) (by decide)) (@pe_cal _ _ _ _ _ _ _ _ _ _ _ C__law_draw hr (by omega) rfl (@pa_cons _ _ _ _ _ (@pv _ 0 _ _ (by rfl) (by first | exact Or.inl rfl | exact Or.inr ( Or.inl rfl ) | exact Or.inr ( Or.inr rfl )) (by decide) (by decide)) (@pa_cons _ _ _ _ _ (@pe_callB _ _ _ _ _ _ _ _ _ call_len_str rfl B.ilen PySem.boot_len (@pa_cons _ _ _ _ _ (@pv _ 2 _ _ (by rfl) (by first | exact Or.inl rfl | exact Or.inr ( Or.inl rfl ) | exact Or.inr ( Or.inr rfl )) (by decide) (by decide)) pa_nil (by rfl)) (by decide) (by decide) (by rfl) (by rfl)) pa_nil (by rfl)) (by rfl)) (by decide) (by rfl) (by rfl)) (fun _ _ => rfl)) (by rfl) (by first | exact .inl rfl | exact .inr rfl | assumption)) (@pss_one _ _ _ (@ps_ret _ _ _ _ (@pe_tup _ _ _ _ _ (@pa_cons _ _ _ _ _ (@pv _ 4 _ _ (by rfl) (by first | exact Or.inl rfl | exact Or.inr ( Or.inl rfl ) | exact Or.inr ( Or.inr rfl )) (by decide) (by decide)) (@pa_cons _ _ _ _ _ (@pe_cal _ _ _ _ _ _ _ _ _ _ _ C__law_way hr (by omega) rfl (@pa_cons _ _ _ _ _ (@pv _ 0 _ _ (by rfl) (by first | exact Or.inl rfl | exact Or.inr ( Or.inl rfl ) | exact Or.inr ( Or.inr rfl )) (by decide) (by decide)) (@pa_cons _ _ _ _ _ (@pe_slice _ _ _ _ _ _ _ _ _ _ sl_list (@pv _ 1 _ _ (by rfl) (by first | exact Or.inl rfl | exact Or.inr ( Or.inl rfl ) | exact Or.inr ( Or.inr rfl )) (by decide) (by decide)) po_none (@po_some _ _ _ (@pv _ 3 _ _ (by rfl) (by first | exact Or.inl rfl | exact Or.inr ( Or.inl rfl ) | exact Or.inr ( Or.inr rfl )) (by decide) (by decide)))) (@pa_cons _ _ _ _ _ (@pv _ 2 _ _ (by rfl) (by first | exact Or.inl rfl | exact Or.inr ( Or.inl rfl ) | exact Or.inr ( Or.inr rfl )) (by decide) (by decide)) pa_nil (by rfl)) (by rfl)) (by rfl)) (by decide) (by rfl) (by rfl)) (@pa_cons _ _ _ _ _ (@pe_cal _ _ _ _ _ _ _ _ _ _ _ C__law_way hr (by omega) rfl (@pa_cons _ _ _ _ _ (@pv _ 0 _ _ (by rfl) (by first | exact Or.inl rfl | exact Or.inr ( Or.inl rfl ) | exact Or.inr ( Or.inr rfl )) (by decide) (by decide)) (@pa_cons _ _ _ _ _ (@pe_slice _ _ _ _ _ _ _ _ _ _ sl_list (@pv _ 1 _ _ (by rfl) (by first | exact Or.inl rfl | exact Or.inr ( Or.inl rfl ) | exact Or.inr ( Or.inr rfl )) (by decide) (by decide)) (@po_some _ _ _ (@pv _ 3 _ _ (by rfl) (by first | exact Or.inl rfl | exact Or.inr ( Or.inl rfl ) | exact Or.inr ( Or.inr rfl )) (by decide) (by decide))) po_none) (@pa_cons _ _ _ _ _ (@pv _ 2 _ _ (by rfl) (by first | exact Or.inl rfl | exact Or.inr ( Or.inl rfl ) | exact Or.inr ( Or.inr rfl )) (by decide) (by decide)) pa_nil (by rfl)) (by rfl)) (by rfl)) (by decide) (by rfl) (by rfl)) pa_nil (by rfl)) (by rfl)) (by rfl)))))))), ?_⟩
    have hl : (ns.map V.int).length = ns.length := List.length_map _
    refine ⟨_, rfl, r, _, rfl, .inl (SqL.of er), rfl, _, rfl, ite2 (fun c => ?_) (fun c => ?_)⟩
    · have c' : V.int (((ns.map V.int).length : Nat) : Int) = V.int 1 := of_decide_eq_true c
      have c2 : (((ns.map V.int).length : Nat) : Int) = 1 := by injection c'
      rw [hl] at c2
      match ns, c2, er, q with
      | [i], _, er, q =>
        exact ⟨_, rfl, r, _, _, _, rfl, rfl, SqL.of er, rfl, q _ (.num i) H rfl rfl trivial But.refl (hw.more (by show M ≤ M + 4 * ((1 : Nat) : Int) - 4; omega))⟩
    have c2 : ns.length ≠ 1 := fun e => c (by rw [hl, e]; rfl)
    refine ⟨_, rfl, _, rfl, r, _, rfl, .inl (SqL.of er), _, _, rfl, rfl, wl, ((ns.map V.int).length : Int) - 1, M, rfl, by rw [hl]; omega, by rw [hl]; omega, hw, by omega, fun r1 H1 a1 b1 k1 w1 => ?_⟩
    rw [hl] at b1
    have er1 := k1 _ _ nr er
    refine ⟨_, _, rfl, rfl, _, rfl, r, _, rfl, .inl (SqL.of er1), _, _, rfl, rfl, (by show 3 ≤ sizeLine; decide), fun p1 n1 => ?_⟩
    have w1' := w1.keep (Same.new n1 (.lst [.int (1 + r1), .int 1, .int (((ns.map V.int).length : Int) - 1)])) (Int.le_refl _)
    refine ⟨_, rfl, wl, 5, _, rfl, by decide, by decide, w1', by omega, fun r2 H2 a2 b2 k2 w2 => ?_⟩
    have z2 : 0 ≤ r2 / 2 ∧ r2 / 2 < 3 := by omega
    obtain ⟨cut, hc, c0, c1⟩ := at3 (a := 1 + r1) (b := 1) (c := ((ns.map V.int).length : Int) - 1) z2.1 z2.2 (fun i => 1 ≤ i ∧ i < (ns.length : Int)) (by omega) (by omega) (by rw [hl]; omega)
    have ne1 : p1 ≠ wl := w1.ne n1
    refine ⟨_, _, rfl, rfl, ⟨by decide, by decide⟩, p1, _, _, _, rfl, rfl, SqL.of (k2 _ _ ne1 upd_same), hc, ?_⟩
    have hgl := sgText_len gs
    refine ⟨_, rfl, _, rfl, _, rfl, _, rfl, le_line (by omega), wl, ((sgText gs).length : Int), _, rfl, by omega, by omega, w2, by omega, fun r3 H3 a3 b3 k3 w3 => ?_⟩
    obtain ⟨g, hg, gm⟩ := at_sg (gs := gs) a3 (by omega)
    refine ⟨_, _, _, rfl, rfl, le_line (by omega), hg, ?_⟩
    obtain ⟨cn, rfl⟩ := Int.eq_ofNat_of_zero_le (show 0 ≤ cut by omega)
    have hcl : cn ≤ ns.length := by omega
    have kk : But wl H H3 := ((k1.trans (But.new n1 _)).trans k2).trans k3
    have er3 := kk _ _ nr er
    refine ⟨_, rfl, _, rfl, _, rfl, _, rfl, cn, rfl, r, _, rfl, SqL.of er3, fun p2 n2 => ?_⟩
    rw [cut_take ns cn hcl]
    have lt : (ns.take cn).length = cn := by rw [List.length_take]; omega
    have ld : (ns.drop cn).length = ns.length - cn := by rw [List.length_drop]
    have w4 := w3.keep (Same.new n2 (.lst ((ns.take cn).map V.int))) (Int.le_refl _)
    refine ⟨_, rfl, wl, p2, gs, ns.take cn, _, rfl, upd_same, w3.ne n2, by omega, by omega, by omega, g1, g3, w4, by omega, fun vl wyl H4 i4 e4 t4 k4 w5 => ?_⟩
    have kk4 : But wl H H4 := (kk.trans (But.new n2 _)).trans k4
    have er4 := kk4 _ _ nr er
    refine ⟨_, rfl, _, rfl, _, rfl, cn, rfl, r, _, rfl, SqL.of er4, fun p3 n3 => ?_⟩
    rw [cut_drop ns cn hcl]
    have w6 := w5.keep (Same.new n3 (.lst ((ns.drop cn).map V.int))) (Int.le_refl _)
    refine ⟨_, rfl, wl, p3, gs, ns.drop cn, _, rfl, upd_same, w5.ne n3, by omega, by omega, by omega, g1, g3, w6, by omega, fun vr wyr H5 i5 e5 t5 k5 w7 => ?_⟩
    refine ⟨(by show 3 ≤ sizeLine; decide), fun p4 n4 => ?_⟩
    have T45 : Tups H4 H5 := (Tups.of (Same.new n3 _)).trans (w6.tups k5)
    have T5 : Tups H5 (upd H5 p4 (.tup [.str ⟨#[g.code]⟩, vl, vr])) := Tups.of (Same.new n4 _)
    refine q _ (.node g wyl wyr) _ ⟨p4, vl, vr, rfl, ?_, i4.mono (T45.trans T5), i5.mono T5⟩ ?_ ⟨gm, t4, t5⟩ (((kk4.trans (But.new n3 _)).trans k5).trans (But.new n4 _)) ?_
    · rw [upd_same, sg_str_code]
    · show wyl.nums ++ wyr.nums = ns
      rw [e4, e5, List.take_append_drop]
    · refine (w7.keep (Same.new n4 _) (Int.le_refl _)).more ?_
      omega
end
end Put

set_option Elab.async false
set_option linter.all false
set_option maxRecDepth 100000
set_option maxHeartbeats 2000000
namespace Put
open PySem L2
/-! ### stretches -/
def Wy.strs : Wy → Int → List (Int × Int)
  | .num _, _ => []
  | .node _ l r, f => (f, f + l.size + r.size - 1) :: l.strs f ++ r.strs (f + l.size)
theorem Wy.strs_len : ∀ (w : Wy) (f : Int), (w.strs f).length + 1 = w.size
  | .num _, _ => rfl
  | .node _ l r, f => by
    have a := l.strs_len f; have b := r.strs_len (f + l.size)
    show ((f, f + l.size + r.size - 1) :: l.strs f ++ r.strs (f + l.size)).length + 1 = l.size + r.size
    rw [List.length_append, List.length_cons]; omega
theorem Wy.strs_in : ∀ (w : Wy) (f : Int) (p : Int × Int), p ∈ w.strs f → f ≤ p.1 ∧ p.1 < p.2 ∧ p.2 < f + w.size
  | .num _, _, _, h => nomatch h
  | .node _ l r, f, p, h => by
    have zl := l.size_pos; have zr := r.size_pos
    have e : ((l.size + r.size : Nat) : Int) = l.size + r.size := by omega
    show f ≤ p.1 ∧ p.1 < p.2 ∧ p.2 < f + ((l.size + r.size : Nat) : Int)
    have h' : p ∈ (f, f + (l.size : Int) + r.size - 1) :: l.strs f ++ r.strs (f + l.size) := h
    rcases List.mem_append.mp h' with h1 | h1
    · rcases List.mem_cons.mp h1 with rfl | h1
      · refine ⟨Int.le_refl _, ?_, ?_⟩ <;> (dsimp only; omega)
      · have := l.strs_in f p h1; omega
    · have := r.strs_in _ p h1; omega
theorem Wy.strs_nodup : ∀ (w : Wy) (f : Int), (w.strs f).Nodup
  | .num _, _ => List.nodup_nil
  | .node _ l r, f => by
    have zl := l.size_pos; have zr := r.size_pos
    show ((f, f + (l.size : Int) + r.size - 1) :: l.strs f ++ r.strs (f + l.size)).Nodup
    refine List.nodup_append.mpr ⟨List.nodup_cons.mpr ⟨fun h => ?_, l.strs_nodup f⟩, r.strs_nodup _, fun p hp q hq e => ?_⟩
    · have := l.strs_in f _ h
      dsimp only at this; omega
    · subst e
      have b := r.strs_in _ p hq
      rcases List.mem_cons.mp hp with rfl | hp
      · dsimp only at b; omega
      · have := l.strs_in f p hp; omega
theorem Wy.strs_fine (w : Wy) (f : Int) (h0 : 0 ≤ f) (h1 : f + w.size < 1000) : Fine (w.strs f) :=
  ⟨fun p hp => by have := w.strs_in f p hp; omega, w.strs_nodup f⟩
theorem PairsIn.mono {H H' : Hp} (t : Tups H H') : ∀ {ps : List (Int × Int)} {vs : List V}, PairsIn H ps vs → PairsIn H' ps vs
  | _, _, .nil => .nil
  | _, _, .cons ⟨a, e, h⟩ b => .cons ⟨a, e, t _ _ h⟩ (PairsIn.mono t b)
theorem PairsIn.app {H : Hp} {ps qs : List (Int × Int)} {vs us : List V} (a : PairsIn H ps vs) (b : PairsIn H qs us) : PairsIn H (ps ++ qs) (vs ++ us) := by
  induction a with
  | nil => exact b
  | cons x _ ih => exact .cons x ih
theorem PairsIn.len {H : Hp} {ps : List (Int × Int)} {vs : List V} (a : PairsIn H ps vs) : ps.length = vs.length := Paired.length a
section
variable {P : Program} {w : World} {K : PySem.W.Frag} {mg : Str → Option Value} {base : Heap} {f : Addr} {fd : FuncData}
def spStr (n : Nat) : Sp := fun vs H Q _ => ∃ (w : Wy) (v : V) (fi : Int), vs = [v, .int fi] ∧ WyIn H w v ∧ w.size ≤ 20 ∧ w.deep ≤ n ∧ ∀ p us H', Same H H' → H p = none → H' p = some (.lst us) → PairsIn H' (w.strs fi) us → Q (.ref p) H'
abbrev s_list_stretches : Stmt := top 16
theorem sc_list_stretches : FnScope ["way", "first", "sign", "left", "right", "cut", "last"] ["way", "first"] (defScope s_list_stretches) := ⟨rfl, rfl, rfl, by decide +kernel, rfl, by decide +kernel, by decide +kernel⟩
theorem ok_list_stretches (F : Fun K "list_stretches" "list_stretches" s_list_stretches f fd) (bF : Binds K fd ["way", "first"] []) (mF : mg "list_stretches" = some (.ref f)) (B : Bu K mg) (C_is_whole : Cal P w K mg base "is_whole" 1 ["thing"] (spWhole K))
    (C_list_numbers : Cal P w K mg base "list_numbers" 21 ["way"] (spNums 20)) : ∀ n, FnOk P w K mg base CX0 (n + 22) f fd ["way", "first"] (spStr n) := by
  intro n
  induction n with
  | zero =>
    refine ⟨fun vs H Q E h => ?_, fun A outer s H args us vs Q E _ _ _ _ h => ?_⟩
    · obtain ⟨x, v, fi, rfl, _⟩ := h
      rfl
    · obtain ⟨wy, v, fi, _, _, _, hd, _⟩ := h
      cases wy <;> exact absurd hd (by simp [Wy.deep])
  | succ n ih =>
    have C_list_stretches : Cal P w K mg base "list_stretches" (n + 22) ["way", "first"] (spStr n) := ⟨f, fd, ih, bF, F.kp, mF⟩
    refine F.ok sc_list_stretches (fun vs H Q E h => ?_) (fun cdv A outer s H vs Q E hr h => ?_)
    · obtain ⟨x, v, fi, rfl, _⟩ := h
      rfl
    obtain ⟨wy, v, fi, rfl, hw, h20, hd, q⟩ := h
    refine ⟨_, (@pss_cons _ _ _ _ _ (@ps_if _ _ _ _ _ _ _ _ (@pt_val _ _ _ (@pe_cal _ _ _ _ _ _ _ _ _ _ _ C_is_whole hr (by omega) rfl (@pa_cons _ _ _ _ _ (@pv _ 0 _ _ (by rfl) (by first | exact Or.inl rfl | exact Or.inr ( Or.inl rfl ) | exact Or.inr ( Or.inr rfl )) (by decide) (by decide)) pa_nil (by rfl)) (by decide) (by rfl) (by rfl)) (by intro _; rfl)) (@pss_one _ _ _ (@ps_ret _ _ _ _ (@pe_lst _ _ _ _ pa_nil))) pss_nil) (@pss_cons _ _ _ _ _ (@ps_asg _ _ _ _ _ _ (@pv _ 0 _ _ (by rfl) (by first | exact Or.inl rfl | exact Or.inr ( Or.inl rfl ) | exact Or.inr ( Or.inr rfl )) (by decide) (by decide)) (@pg_tup _ _ _ _ _ _ rfl (@pgs_cons _ _ _ _ _ (@pg_name _ _ (2) _ (sc_list_stretches).nd rfl (Or.inl rfl) (by first | exact .inl rfl | exact .inr rfl | assumption)) (@pgs_cons _ _ _ _ _ (@pg_name _ _ (3) _ (sc_list_stretches).nd rfl (Or.inl rfl) (by first | exact .inl rfl | exact .inr rfl | assumption)) (@pgs_cons _ _ _ _ _ (@pg_name _ _ (4) _ (sc_list_stretches).nd rfl (Or.inl rfl) (by first | exact .inl rfl | exact .inr rfl | assumption)) pgs_nil (by rfl)) (by rfl)) (by rfl)) (by rfl) (by rfl)) (by rfl) (by rfl) (by rfl)) (@pss_cons _ _ _ _ _ (@ps_set _ _ (5) _ _ _ _ (sc_list_stretches).nd rfl (Or.inl rfl) (@pe_op _ _ _ _ _ _ _ _ op_add (@pv _ 1 _ _ (by rfl) (by first | exact Or.inl rfl | exact Or.inr ( Or.inl rfl ) | exact Or.inr ( Or.inr rfl )) (by decide) (by decide)) (@pe_callB _ _ _ _ _ _ _ _ _ call_len_seq rfl B.ilen PySem.boot_len (@pa_cons _ _ _ _ _ (@pe_cal _ _ _ _ _ _ _ _ _ _ _ C_list_numbers hr (by omega) rfl (@pa_cons _ _ _ _ _ (@pv _ 3 _ _ (by rfl) (by first | exact Or.inl rfl | exact Or.inr ( Or.inl rfl ) | exact Or.inr ( Or.inr rfl )) (by decide) (by decide)) pa_nil (by rfl)) (by decide) (by rfl) (by rfl)) pa_nil (by rfl)) (by decide) (by decide) (by rfl) (by rfl))) (by rfl) (by first | exact .inl rfl | exact .inr rfl | assumption)) (@pss_cons _ _ _ _ _ (@ps_set _ _ (6) _ _ _ _ (sc_list_stretches).nd rfl (Or.inl rfl) (@pe_op _ _ _ _ _ _ _ _ op_sub (@pe_op _ _ _ _ _ _ _ _ op_add (@pv _ 5 _ _ (by rfl) (by first | exact Or.inl rfl | exact Or.inr ( Or.inl rfl ) | exact Or.inr ( Or.inr rfl )) (by decide) (by decide)) (@pe_callB _ _ _ _ _ _ _ _ _ call_len_seq rfl B.ilen PySem.boot_len (@pa_cons _ _ _ _ _ (@pe_cal _ _ _ _ _ _ _ _ _ _ _ C_list_numbers hr (by omega) rfl (@pa_cons _ _ _ _ _ (@pv _ 4 _ _ (by rfl) (by first | exact Or.inl rfl | exact Or.inr ( Or.inl rfl ) | exact Or.inr ( Or.inr rfl )) (by decide) (by decide)) pa_nil (by rfl)) (by decide) (by rfl) (by rfl)) pa_nil (by rfl)) (by decide) (by decide) (by rfl) (by rfl))) pe_int) (by rfl) (by first | exact .inl rfl | exact .inr rfl | assumption)) (@pss_one _ _ _ (@ps_ret _ _ _ _ (@pe_op _ _ _ _ _ _ _ _ op_cat (@pe_op _ _ _ _ _ _ _ _ op_cat (@pe_lst _ _ _ _ (@pa_cons _ _ _ _ _ (@pe_tup _ _ _ _ _ (@pa_cons _ _ _ _ _ (@pv _ 1 _ _ (by rfl) (by first | exact Or.inl rfl | exact Or.inr ( Or.inl rfl ) | exact Or.inr ( Or.inr rfl )) (by decide) (by decide)) (@pa_cons _ _ _ _ _ (@pv _ 6 _ _ (by rfl) (by first | exact Or.inl rfl | exact Or.inr ( Or.inl rfl ) | exact Or.inr ( Or.inr rfl )) (by decide) (by decide)) pa_nil (by rfl)) (by rfl))) pa_nil (by rfl))) (@pe_cal _ _ _ _ _ _ _ _ _ _ _ C_list_stretches hr (by omega) rfl (@pa_cons _ _ _ _ _ (@pv _ 3 _ _ (by rfl) (by first | exact Or.inl rfl | exact Or.inr ( Or.inl rfl ) | exact Or.inr ( Or.inr rfl )) (by decide) (by decide)) (@pa_cons _ _ _ _ _ (@pv _ 1 _ _ (by rfl) (by first | exact Or.inl rfl | exact Or.inr ( Or.inl rfl ) | exact Or.inr ( Or.inr rfl )) (by decide) (by decide)) pa_nil (by rfl)) (by rfl)) (by decide) (by rfl) (by rfl))) (@pe_cal _ _ _ _ _ _ _ _ _ _ _ C_list_stretches hr (by omega) rfl (@pa_cons _ _ _ _ _ (@pv _ 4 _ _ (by rfl) (by first | exact Or.inl rfl | exact Or.inr ( Or.inl rfl ) | exact Or.inr ( Or.inr rfl )) (by decide) (by decide)) (@pa_cons _ _ _ _ _ (@pv _ 5 _ _ (by rfl) (by first | exact Or.inl rfl | exact Or.inr ( Or.inl rfl ) | exact Or.inr ( Or.inr rfl )) (by decide) (by decide)) pa_nil (by rfl)) (by rfl)) (by decide) (by rfl) (by rfl))))))))), ?_⟩
    cases wy with
    | num i =>
      cases hw
      refine ⟨_, rfl, _, "int", rfl, .int i, true, rfl, iteT ⟨(by show 0 ≤ sizeLine; decide), fun p hp => ?_⟩⟩
      exact q p _ _ (Same.new hp _) hp upd_same .nil
    | node g l r =>
      obtain ⟨a, vl, vr, rfl, ha, hl, hr'⟩ := hw
      refine ⟨_, rfl, _, "tuple", rfl, .tup ha, false, rfl, iteF ?_⟩
      have d : max l.deep r.deep + 1 ≤ n + 1 := hd
      have z : l.size + r.size ≤ 20 := h20
      have zl := l.size_pos; have zr := r.size_pos
      have dl := l.deep_le; have dr := r.deep_le
      refine ⟨_, rfl, a, _, rfl, SqT.of ha, rfl, _, _, rfl, _, _, rfl, _, _, rfl, rfl, ?_⟩
      refine ⟨_, rfl, _, rfl, l, vl, rfl, hl, by omega, by omega, fun p1 H1 g1 n1 e1 => ⟨p1, _, rfl, .inl (SqL.of e1), _, _, rfl, rfl, ?_⟩⟩
      refine ⟨_, rfl, _, rfl, r, vr, rfl, hr'.mono (Tups.of g1), by omega, by omega, fun p2 H2 g2 n2 e2 => ⟨p2, _, rfl, .inl (SqL.of e2), _, _, rfl, rfl, _, _, rfl, rfl, ?_⟩⟩
      rw [List.length_map, List.length_map, l.nums_len, r.nums_len]
      refine ⟨_, rfl, _, rfl, (by show 2 ≤ sizeLine; decide), fun p3 n3 => ⟨(by show 1 ≤ sizeLine; decide), fun p4 n4 => ?_⟩⟩
      have g3 := Same.new n3 (.tup [.int fi, .int (fi + (l.size : Int) + (r.size : Int) - 1)])
      have g4 := Same.new n4 (.lst [.ref p3])
      have G4 := ((g1.trans g2).trans g3).trans g4
      refine ⟨_, rfl, _, rfl, l, vl, fi, rfl, hl.mono (Tups.of G4), by omega, by omega, fun p5 us5 H5 g5 n5 e5 i5 => ?_⟩
      have l5 := PairsIn.len i5
      have sl := l.strs_len fi; have sr := r.strs_len (fi + l.size)
      refine ⟨p4, p5, _, _, rfl, rfl, g5 _ _ upd_same, e5, le_line (by show 1 + us5.length ≤ 1000; omega), fun p6 n6 => ?_⟩
      have g6 := Same.new n6 (.lst ([.ref p3] ++ us5))
      have G6 := (G4.trans g5).trans g6
      refine ⟨_, rfl, _, rfl, r, vr, fi + l.size, rfl, hr'.mono (Tups.of G6), by omega, by omega, fun p7 us7 H7 g7 n7 e7 i7 => ?_⟩
      have l7 := PairsIn.len i7
      refine ⟨p6, p7, _, _, rfl, rfl, g7 _ _ upd_same, e7, le_line (by rw [List.length_append, List.length_singleton]; omega), fun p8 n8 => ?_⟩
      have g8 := Same.new n8 (.lst ([.ref p3] ++ us5 ++ us7))
      have G8 := (G6.trans g7).trans g8
      refine q p8 _ _ G8 ((G6.trans g7).free n8) upd_same ?_
      have c3 : PairIn (upd H7 p8 (.lst ([.ref p3] ++ us5 ++ us7))) (fi, fi + (l.size : Int) + (r.size : Int) - 1) (.ref p3) := ⟨p3, rfl, g8 _ _ (g7 _ _ (g6 _ _ (g5 _ _ (g4 _ _ upd_same))))⟩
      exact PairsIn.app (.cons c3 (PairsIn.mono (Tups.of ((g6.trans g7).trans g8)) i5)) (PairsIn.mono (Tups.of g8) i7)
def spStretchesOf : Sp := fun vs H Q _ => ∃ w v, vs = [v] ∧ WyIn H w v ∧ w.size ≤ 9 ∧ ∀ p qs us H', Same H H' → H p = none → H' p = some (.lst us) → PairsIn H' qs us → qs.Perm (w.strs 0) → (qs.map pkey).Pairwise (· < ·) → Q (.ref p) H'
abbrev s_stretches_of : Stmt := top 15
theorem sc_stretches_of : FnScope ["way"] ["way"] (defScope s_stretches_of) := ⟨rfl, rfl, rfl, by decide +kernel, rfl, by decide +kernel, by decide +kernel⟩
theorem ok_stretches_of (F : Fun K "stretches_of" "stretches_of" s_stretches_of f fd) (B : Bu K mg) (C_need_way : Cal P w K mg base "need_way" 3 ["thing"] spNeedWay) (C_list_stretches : Cal P w K mg base "list_stretches" 42 ["way", "first"] (spStr 20)) :
    FnOk P w K mg base CX0 43 f fd ["way"] spStretchesOf := by
  refine F.ok sc_stretches_of (fun vs H Q E h => ?_) (fun cdv A outer s H vs Q E hr h => ?_)
  · obtain ⟨x, v, rfl, _⟩ := h
    rfl
  obtain ⟨wy, v, rfl, hw, h9, q⟩ := h
  refine ⟨_, (@pss_cons _ _ _ _ _ (@ps_expr _ _ _ _ (@pe_cal _ _ _ _ _ _ _ _ _ _ _ C_need_way hr (by omega) rfl (@pa_cons _ _ _ _ _ (@pv _ 0 _ _ (by rfl) (by first | exact Or.inl rfl | exact Or.inr ( Or.inl rfl ) | exact Or.inr ( Or.inr rfl )) (by decide) (by decide)) pa_nil (by rfl)) (by decide) (by rfl) (by rfl)) (by rfl)) (@pss_one _ _ _ (@ps_ret _ _ _ _ (@pe_callB _ _ _ _ _ _ _ _ _ (@call_sortedP _ rfl) rfl B.isorted PyProof.Rows.boot_sorted (@pa_cons _ _ _ _ _ (@pe_cal _ _ _ _ _ _ _ _ _ _ _ C_list_stretches hr (by omega) rfl (@pa_cons _ _ _ _ _ (@pv _ 0 _ _ (by rfl) (by first | exact Or.inl rfl | exact Or.inr ( Or.inl rfl ) | exact Or.inr ( Or.inr rfl )) (by decide) (by decide)) (@pa_cons _ _ _ _ _ pe_int pa_nil (by rfl)) (by rfl)) (by decide) (by rfl) (by rfl)) pa_nil (by rfl)) (by decide) (by decide) (by rfl) (by rfl))))), ?_⟩
  refine ⟨_, rfl, wy, v, rfl, hw, h9, fun H1 g1 => ?_⟩
  have dl := wy.deep_le
  refine ⟨_, rfl, wy, v, 0, rfl, hw.mono (Tups.of g1), by omega, by omega, fun p us H2 g2 n2 e2 i2 => ?_⟩
  have sl := wy.strs_len 0
  refine ⟨p, us, wy.strs 0, rfl, e2, i2, by omega, wy.strs_fine 0 (Int.le_refl _) (by omega), fun p3 qs us3 n3 pm pw i3 => ?_⟩
  exact q p3 qs us3 _ ((g1.trans g2).trans (Same.new n3 _)) ((g1.trans g2).free n3) upd_same (PairsIn.mono (Tups.of (Same.new n3 _)) i3) pm pw
end
end Put

set_option Elab.async false
set_option linter.all false
set_option maxRecDepth 100000
set_option maxHeartbeats 2000000
namespace Put
open PySem L2
/-! ### worths -/
def Sg.op : Sg → Int → Int → Int
  | .plus, a, b => a + b
  | .minus, a, b => a - b
  | .times, a, b => a * b
def Wy.worth : Wy → Int
  | .num i => i
  | .node g l r => g.op l.worth r.worth
theorem add_bd {a b : Int} {m n k : Nat} (ha : a.natAbs < 2 ^ m) (hb : b.natAbs < 2 ^ n) (hm : m < k) (hn : n < k) : (a + b).natAbs < 2 ^ k := by
  have h1 : 2 ^ m ≤ 2 ^ (k - 1) := Nat.pow_le_pow_right (by decide) (by omega)
  have h2 : 2 ^ n ≤ 2 ^ (k - 1) := Nat.pow_le_pow_right (by decide) (by omega)
  have h3 : 2 ^ k = 2 * 2 ^ (k - 1) := by
    have : k = (k - 1) + 1 := by omega
    rw [this, Nat.pow_succ, Nat.add_sub_cancel]; omega
  have := Int.natAbs_add_le a b
  omega
theorem neg_bd {a : Int} {m : Nat} (ha : a.natAbs < 2 ^ m) : (-a).natAbs < 2 ^ m := by rw [Int.natAbs_neg]; exact ha
theorem sub_bd {a b : Int} {m n k : Nat} (ha : a.natAbs < 2 ^ m) (hb : b.natAbs < 2 ^ n) (hm : m < k) (hn : n < k) : (a - b).natAbs < 2 ^ k := by
  rw [Int.sub_eq_add_neg]; exact add_bd ha (neg_bd hb) hm hn
theorem mul_bd {a b : Int} {m n : Nat} (ha : a.natAbs < 2 ^ m) (hb : b.natAbs < 2 ^ n) : (a * b).natAbs < 2 ^ (m + n) := by
  rw [Int.natAbs_mul, Nat.pow_add]
  exact Nat.mul_lt_mul_of_lt_of_le ha (Nat.le_of_lt hb) (Nat.pow_pos (by decide))
theorem up_bd {a : Int} {m n : Nat} (ha : a.natAbs < 2 ^ m) (h : m ≤ n) : a.natAbs < 2 ^ n := Nat.lt_of_lt_of_le ha (Nat.pow_le_pow_right (by decide) h)
theorem op_bd (g : Sg) {a b : Int} {m n k : Nat} (ha : a.natAbs < 2 ^ m) (hb : b.natAbs < 2 ^ n) (h : m + n + 1 ≤ k) : (g.op a b).natAbs < 2 ^ k := by
  cases g with
  | plus => exact add_bd ha hb (by omega) (by omega)
  | minus => exact sub_bd ha hb (by omega) (by omega)
  | times => exact up_bd (mul_bd ha hb) (by omega)
def Wy.Bd (w : Wy) : Prop := ∀ i ∈ w.nums, i.natAbs < 2 ^ 131
theorem Wy.Bd.l {g : Sg} {l r : Wy} (h : (Wy.node g l r).Bd) : l.Bd := fun i hi => h i (List.mem_append_left _ hi)
theorem Wy.Bd.r {g : Sg} {l r : Wy} (h : (Wy.node g l r).Bd) : r.Bd := fun i hi => h i (List.mem_append_right _ hi)
theorem Wy.worth_bd : ∀ w : Wy, w.Bd → w.worth.natAbs < 2 ^ (132 * w.size - 1)
  | .num i, h => h i List.mem_cons_self
  | .node g l r, h => by
    have zl := l.size_pos; have zr := r.size_pos
    show (g.op l.worth r.worth).natAbs < 2 ^ (132 * (l.size + r.size) - 1)
    exact op_bd g (l.worth_bd h.l) (r.worth_bd h.r) (by omega)
/-! ### how a worth hangs on a number -/
def Wy.tp : Wy → Int → Int × Int
  | .num i, p => if p = 0 then (1, 0) else (0, i)
  | .node .times l r, p => ((l.tp p).1 * (r.tp (p - l.size)).2 + (l.tp p).2 * (r.tp (p - l.size)).1, (l.tp p).2 * (r.tp (p - l.size)).2)
  | .node .plus l r, p => ((l.tp p).1 + (r.tp (p - l.size)).1, (l.tp p).2 + (r.tp (p - l.size)).2)
  | .node .minus l r, p => ((l.tp p).1 - (r.tp (p - l.size)).1, (l.tp p).2 - (r.tp (p - l.size)).2)
def Wy.put : Wy → Int → Int → Wy
  | .num i, p, n => if p = 0 then .num n else .num i
  | .node g l r, p, n => .node g (l.put p n) (r.put (p - l.size) n)
theorem Wy.put_size : ∀ (w : Wy) (p n : Int), (w.put p n).size = w.size
  | .num i, p, n => by unfold Wy.put; split <;> rfl
  | .node g l r, p, n => by show (l.put p n).size + (r.put (p - l.size) n).size = l.size + r.size; rw [l.put_size, r.put_size]
theorem Wy.put_out : ∀ (w : Wy) (p n : Int), p < 0 ∨ (w.size : Int) ≤ p → w.put p n = w
  | .num i, p, n, h => by
    have : p ≠ 0 := by have : ((Wy.num i).size : Int) = 1 := rfl; omega
    unfold Wy.put; rw [if_neg this]
  | .node g l r, p, n, h => by
    have e : ((Wy.node g l r).size : Int) = l.size + r.size := by show ((l.size + r.size : Nat) : Int) = _; omega
    show Wy.node g (l.put p n) (r.put (p - l.size) n) = _
    rw [l.put_out p n (by omega), r.put_out (p - l.size) n (by omega)]
theorem Wy.tp_out : ∀ (w : Wy) (p : Int), p < 0 ∨ (w.size : Int) ≤ p → w.tp p = (0, w.worth)
  | .num i, p, h => by
    have : p ≠ 0 := by have : ((Wy.num i).size : Int) = 1 := rfl; omega
    unfold Wy.tp; rw [if_neg this]; rfl
  | .node g l r, p, h => by
    have e : ((Wy.node g l r).size : Int) = l.size + r.size := by show ((l.size + r.size : Nat) : Int) = _; omega
    have a := l.tp_out p (by omega)
    have b := r.tp_out (p - l.size) (by omega)
    cases g <;> simp [Wy.tp, a, b, Wy.worth, Sg.op]
theorem Wy.tp_bd : ∀ (w : Wy) (p : Int), w.Bd → (w.tp p).1.natAbs < 2 ^ (132 * w.size - 1) ∧ (w.tp p).2.natAbs < 2 ^ (132 * w.size - 1)
  | .num i, p, h => by
    have hi := h i List.mem_cons_self
    unfold Wy.tp
    split
    · exact ⟨by show (1 : Nat) < 2 ^ 131; decide, by show (0 : Nat) < 2 ^ 131; decide⟩
    · exact ⟨by show (0 : Nat) < 2 ^ 131; decide, hi⟩
  | .node g l r, p, h => by
    have zl := l.size_pos; have zr := r.size_pos
    have a := l.tp_bd p h.l
    have b := r.tp_bd (p - l.size) h.r
    have e : (Wy.node g l r).size = l.size + r.size := rfl
    rw [e]
    cases g with
    | plus => exact ⟨add_bd a.1 b.1 (by omega) (by omega), add_bd a.2 b.2 (by omega) (by omega)⟩
    | minus => exact ⟨sub_bd a.1 b.1 (by omega) (by omega), sub_bd a.2 b.2 (by omega) (by omega)⟩
    | times => exact ⟨add_bd (mul_bd a.1 b.2) (mul_bd a.2 b.1) (by omega) (by omega), up_bd (mul_bd a.2 b.2) (by omega)⟩
theorem Wy.tp_worth : ∀ (w : Wy) (p n : Int), 0 ≤ p → p < w.size → (w.put p n).worth = (w.tp p).1 * n + (w.tp p).2
  | .num i, p, n, h0, h1 => by
    have : p = 0 := by have : ((Wy.num i).size : Int) = 1 := rfl; omega
    subst this
    show n = 1 * n + 0
    omega
  | .node g l r, p, n, h0, h1 => by
    have e : ((Wy.node g l r).size : Int) = l.size + r.size := by show ((l.size + r.size : Nat) : Int) = _; omega
    show g.op (l.put p n).worth (r.put (p - l.size) n).worth = _
    by_cases c : p < l.size
    · have a := l.tp_worth p n h0 c
      rw [r.put_out (p - l.size) n (by omega), a]
      have b := r.tp_out (p - l.size) (by omega)
      cases g <;> simp only [Wy.tp, b, Sg.op] <;> grind
    · have a := r.tp_worth (p - l.size) n (by omega) (by omega)
      rw [l.put_out p n (by omega), a]
      have b := l.tp_out p (by omega)
      cases g <;> simp only [Wy.tp, b, Sg.op] <;> grind
theorem Wy.tp_put : ∀ (w : Wy) (p n : Int), 0 ≤ p → p < w.size → (w.put p n).tp p = w.tp p
  | .num i, p, n, h0, h1 => by
    have : p = 0 := by have : ((Wy.num i).size : Int) = 1 := rfl; omega
    subst this; rfl
  | .node g l r, p, n, h0, h1 => by
    have e : ((Wy.node g l r).size : Int) = l.size + r.size := by show ((l.size + r.size : Nat) : Int) = _; omega
    have s := l.put_size p n
    show (Wy.node g (l.put p n) (r.put (p - l.size) n)).tp p = _
    by_cases c : p < l.size
    · have a := l.tp_put p n h0 c
      rw [r.put_out (p - l.size) n (by omega)]
      cases g <;> simp only [Wy.tp, a, s]
    · have a := r.tp_put (p - l.size) n (by omega) (by omega)
      rw [l.put_out p n (by omega)]
      cases g <;> simp only [Wy.tp, a]
theorem Wy.put_nums : ∀ (w : Wy) (p n : Int) (i : Int), i ∈ (w.put p n).nums → i = n ∨ i ∈ w.nums
  | .num k, p, n, i, h => by
    unfold Wy.put at h
    split at h
    · exact .inl (by simpa [Wy.nums] using h)
    · exact .inr h
  | .node g l r, p, n, i, h => by
    have h' : i ∈ (l.put p n).nums ++ (r.put (p - l.size) n).nums := h
    rcases List.mem_append.mp h' with h' | h'
    · rcases l.put_nums p n i h' with z | z
      · exact .inl z
      · exact .inr (List.mem_append_left _ z)
    · rcases r.put_nums _ n i h' with z | z
      · exact .inl z
      · exact .inr (List.mem_append_right _ z)
theorem Wy.put_Bd {w : Wy} (h : w.Bd) (p : Int) {n : Int} (hn : n.natAbs < 2 ^ 131) : (w.put p n).Bd := fun i hi => by
  rcases w.put_nums p n i hi with z | z
  · rw [z]; exact hn
  · exact h i z
section
variable {P : Program} {w : World} {K : PySem.W.Frag} {mg : Str → Option Value} {base : Heap} {f : Addr} {fd : FuncData}
def spNeedWhole : Sp := fun vs H Q _ => ∃ i, vs = [.int i] ∧ Q .non H
abbrev s_need_whole : Stmt := top 12
theorem sc_need_whole : FnScope ["thing"] ["thing"] (defScope s_need_whole) := ⟨rfl, rfl, rfl, by decide +kernel, rfl, by decide +kernel, by decide +kernel⟩
theorem ok_need_whole (F : Fun K "need_whole" "need_whole" s_need_whole f fd) (C_is_whole : Cal P w K mg base "is_whole" 1 ["thing"] (spWhole K)) : FnOk P w K mg base CX0 2 f fd ["thing"] spNeedWhole := by
  refine F.ok sc_need_whole (fun vs H Q E h => ?_) (fun cdv A outer s H vs Q E hr h => ?_)
  · obtain ⟨x, rfl, _⟩ := h
    rfl
  obtain ⟨i, rfl, q⟩ := h
  refine ⟨_, (@pss_one _ _ _ (@ps_if _ _ _ _ _ _ _ _ (@pt_not _ _ _ _ (@pt_val _ _ _ (@pe_cal _ _ _ _ _ _ _ _ _ _ _ C_is_whole hr (by omega) rfl (@pa_cons _ _ _ _ _ (@pv _ 0 _ _ (by rfl) (by first | exact Or.inl rfl | exact Or.inr ( Or.inl rfl ) | exact Or.inr ( Or.inr rfl )) (by decide) (by decide)) pa_nil (by rfl)) (by decide) (by rfl) (by rfl)) (by intro _; rfl))) (@pss_one _ _ _ ps_never) pss_nil)), ?_⟩
  exact ⟨_, rfl, _, "int", rfl, .int i, true, rfl, iteF q⟩
def spPutSign : Sp := fun vs H Q _ => ∃ a g b, vs = [.int a, .str (Sg.str g), .int b] ∧ a.natAbs < 2 ^ 4000 ∧ b.natAbs < 2 ^ 4000 ∧ Q (.int (g.op a b)) H
abbrev s_put_sign : Stmt := top 23
theorem sc_put_sign : FnScope ["left", "sign", "right"] ["left", "sign", "right"] (defScope s_put_sign) := ⟨rfl, rfl, rfl, by decide +kernel, rfl, by decide +kernel, by decide +kernel⟩
theorem ok_put_sign (F : Fun K "put_sign" "put_sign" s_put_sign f fd) : FnOk P w K mg base CX0 1 f fd ["left", "sign", "right"] spPutSign := by
  refine F.ok sc_put_sign (fun vs H Q E h => ?_) (fun cdv A outer s H vs Q E hr h => ?_)
  · obtain ⟨a, g, b, rfl, _⟩ := h
    rfl
  obtain ⟨a, g, b, rfl, ha, hb, q⟩ := h
  refine ⟨_, (@pss_cons _ _ _ _ _ (@ps_if _ _ _ _ _ _ _ _ (@pt_cmpR _ _ _ _ _ _ _ _ op_eq (@pv _ 1 _ _ (by rfl) (by first | exact Or.inl rfl | exact Or.inr ( Or.inl rfl ) | exact Or.inr ( Or.inr rfl )) (by decide) (by decide)) pe_str (nomark _)) (@pss_one _ _ _ (@ps_ret _ _ _ _ (@pe_op _ _ _ _ _ _ _ _ op_add (@pv _ 0 _ _ (by rfl) (by first | exact Or.inl rfl | exact Or.inr ( Or.inl rfl ) | exact Or.inr ( Or.inr rfl )) (by decide) (by decide)) (@pv _ 2 _ _ (by rfl) (by first | exact Or.inl rfl | exact Or.inr ( Or.inl rfl ) | exact Or.inr ( Or.inr rfl )) (by decide) (by decide))))) pss_nil) (@pss_cons _ _ _ _ _ (@ps_if _ _ _ _ _ _ _ _ (@pt_cmpR _ _ _ _ _ _ _ _ op_eq (@pv _ 1 _ _ (by rfl) (by first | exact Or.inl rfl | exact Or.inr ( Or.inl rfl ) | exact Or.inr ( Or.inr rfl )) (by decide) (by decide)) pe_str (nomark _)) (@pss_one _ _ _ (@ps_ret _ _ _ _ (@pe_op _ _ _ _ _ _ _ _ op_sub (@pv _ 0 _ _ (by rfl) (by first | exact Or.inl rfl | exact Or.inr ( Or.inl rfl ) | exact Or.inr ( Or.inr rfl )) (by decide) (by decide)) (@pv _ 2 _ _ (by rfl) (by first | exact Or.inl rfl | exact Or.inr ( Or.inl rfl ) | exact Or.inr ( Or.inr rfl )) (by decide) (by decide))))) pss_nil) (@pss_one _ _ _ (@ps_ret _ _ _ _ (@pe_op _ _ _ _ _ _ _ _ op_mulB (@pv _ 0 _ _ (by rfl) (by first | exact Or.inl rfl | exact Or.inr ( Or.inl rfl ) | exact Or.inr ( Or.inr rfl )) (by decide) (by decide)) (@pv _ 2 _ _ (by rfl) (by first | exact Or.inl rfl | exact Or.inr ( Or.inl rfl ) | exact Or.inr ( Or.inr rfl )) (by decide) (by decide))))))), ?_⟩
  cases g with
  | plus => exact ⟨_, rfl, rfl, _, rfl, iteDT rfl ⟨_, rfl, _, rfl, _, _, rfl, rfl, q⟩⟩
  | minus => exact ⟨_, rfl, rfl, _, rfl, iteDF (by decide +kernel) ⟨_, rfl, rfl, _, rfl, iteDT rfl ⟨_, rfl, _, rfl, _, _, rfl, rfl, q⟩⟩⟩
  | times => exact ⟨_, rfl, rfl, _, rfl, iteDF (by decide +kernel) ⟨_, rfl, rfl, _, rfl, iteDF (by decide +kernel) ⟨_, rfl, _, rfl, _, _, rfl, rfl, ⟨ha, hb⟩, q⟩⟩⟩
theorem big {a : Int} {m : Nat} (h : a.natAbs < 2 ^ (132 * m - 1)) (hm : m ≤ 20) : a.natAbs < 2 ^ 4000 := up_bd h (by omega)
def spWorth (n : Nat) : Sp := fun vs H Q _ => ∃ w v, vs = [v] ∧ WyIn H w v ∧ w.size ≤ 20 ∧ w.deep ≤ n ∧ w.Bd ∧ Q (.int w.worth) H
abbrev s_find_worth : Stmt := top 24
theorem sc_find_worth : FnScope ["way", "sign", "left", "right"] ["way"] (defScope s_find_worth) := ⟨rfl, rfl, rfl, by decide +kernel, rfl, by decide +kernel, by decide +kernel⟩
theorem ok_find_worth (F : Fun K "find_worth" "find_worth" s_find_worth f fd) (bF : Binds K fd ["way"] []) (mF : mg "find_worth" = some (.ref f)) (C_is_whole : Cal P w K mg base "is_whole" 1 ["thing"] (spWhole K)) (C_put_sign : Cal P w K mg base "put_sign" 1 ["left", "sign", "right"] spPutSign) :
    ∀ n, FnOk P w K mg base CX0 (n + 1) f fd ["way"] (spWorth n) := by
  intro n
  induction n with
  | zero =>
    refine ⟨fun vs H Q E h => ?_, fun A outer s H args us vs Q E _ _ _ _ h => ?_⟩
    · obtain ⟨x, v, rfl, _⟩ := h
      rfl
    · obtain ⟨wy, v, _, _, _, hd, _⟩ := h
      cases wy <;> exact absurd hd (by simp [Wy.deep])
  | succ n ih =>
    have C_find_worth : Cal P w K mg base "find_worth" (n + 1) ["way"] (spWorth n) := ⟨f, fd, ih, bF, F.kp, mF⟩
    refine F.ok sc_find_worth (fun vs H Q E h => ?_) (fun cdv A outer s H vs Q E hr h => ?_)
    · obtain ⟨x, v, rfl, _⟩ := h
      rfl
    obtain ⟨wy, v, rfl, hw, h20, hd, hB, q⟩ := h
    refine ⟨_, (@pss_cons _ _ _ _ _ (@ps_if _ _ _ _ _ _ _ _ (@pt_val _ _ _ (@pe_cal _ _ _ _ _ _ _ _ _ _ _ C_is_whole hr (by omega) rfl (@pa_cons _ _ _ _ _ (@pv _ 0 _ _ (by rfl) (by first | exact Or.inl rfl | exact Or.inr ( Or.inl rfl ) | exact Or.inr ( Or.inr rfl )) (by decide) (by decide)) pa_nil (by rfl)) (by decide) (by rfl) (by rfl)) (by intro _; rfl)) (@pss_one _ _ _ (@ps_ret _ _ _ _ (@pv _ 0 _ _ (by rfl) (by first | exact Or.inl rfl | exact Or.inr ( Or.inl rfl ) | exact Or.inr ( Or.inr rfl )) (by decide) (by decide)))) pss_nil) (@pss_cons _ _ _ _ _ (@ps_asg _ _ _ _ _ _ (@pv _ 0 _ _ (by rfl) (by first | exact Or.inl rfl | exact Or.inr ( Or.inl rfl ) | exact Or.inr ( Or.inr rfl )) (by decide) (by decide)) (@pg_tup _ _ _ _ _ _ rfl (@pgs_cons _ _ _ _ _ (@pg_name _ _ (1) _ (sc_find_worth).nd rfl (Or.inl rfl) (by first | exact .inl rfl | exact .inr rfl | assumption)) (@pgs_cons _ _ _ _ _ (@pg_name _ _ (2) _ (sc_find_worth).nd rfl (Or.inl rfl) (by first | exact .inl rfl | exact .inr rfl | assumption)) (@pgs_cons _ _ _ _ _ (@pg_name _ _ (3) _ (sc_find_worth).nd rfl (Or.inl rfl) (by first | exact .inl rfl | exact .inr rfl | assumption)) pgs_nil (by rfl)) (by rfl)) (by rfl)) (by rfl) (by rfl)) (by rfl) (by rfl) (by rfl)) (@pss_one _ _ _ (@ps_ret _ _ _ _ (@pe_cal _ _ _ _ _ _ _ _ _ _ _ C_put_sign hr (by omega) rfl (@pa_cons _ _ _ _ _ (@pe_cal _ _ _ _ _ _ _ _ _ _ _ C_find_worth hr (by omega) rfl (@pa_cons _ _ _ _ _ (@pv _ 2 _ _ (by rfl) (by first | exact Or.inl rfl | exact Or.inr ( Or.inl rfl ) | exact Or.inr ( Or.inr rfl )) (by decide) (by decide)) pa_nil (by rfl)) (by decide) (by rfl) (by rfl)) (@pa_cons _ _ _ _ _ (@pv _ 1 _ _ (by rfl) (by first | exact Or.inl rfl | exact Or.inr ( Or.inl rfl ) | exact Or.inr ( Or.inr rfl )) (by decide) (by decide)) (@pa_cons _ _ _ _ _ (@pe_cal _ _ _ _ _ _ _ _ _ _ _ C_find_worth hr (by omega) rfl (@pa_cons _ _ _ _ _ (@pv _ 3 _ _ (by rfl) (by first | exact Or.inl rfl | exact Or.inr ( Or.inl rfl ) | exact Or.inr ( Or.inr rfl )) (by decide) (by decide)) pa_nil (by rfl)) (by decide) (by rfl) (by rfl)) pa_nil (by rfl)) (by rfl)) (by rfl)) (by decide) (by rfl) (by rfl)))))), ?_⟩
    cases wy with
    | num i =>
      cases hw
      exact ⟨_, rfl, _, "int", rfl, .int i, true, rfl, iteT ⟨_, rfl, q⟩⟩
    | node g l r =>
      obtain ⟨a, vl, vr, rfl, ha, hl, hr'⟩ := hw
      refine ⟨_, rfl, _, "tuple", rfl, .tup ha, false, rfl, iteF ?_⟩
      have d : max l.deep r.deep + 1 ≤ n + 1 := hd
      have z : l.size + r.size ≤ 20 := h20
      have zl := l.size_pos; have zr := r.size_pos
      refine ⟨_, rfl, a, _, rfl, SqT.of ha, rfl, _, _, rfl, _, _, rfl, _, _, rfl, rfl, ?_⟩
      refine ⟨_, rfl, l, vl, rfl, hl, by omega, by omega, hB.l, ?_⟩
      refine ⟨_, rfl, _, rfl, r, vr, rfl, hr', by omega, by omega, hB.r, ?_⟩
      exact ⟨_, g, _, rfl, big (l.worth_bd hB.l) (by omega), big (r.worth_bd hB.r) (by omega), q⟩
def spWorthOf : Sp := fun vs H Q _ => ∃ w v, vs = [v] ∧ WyIn H w v ∧ w.size ≤ 9 ∧ w.Bd ∧ ∀ H', Same H H' → Q (.int w.worth) H'
abbrev s_worth_of : Stmt := top 18
theorem sc_worth_of : FnScope ["way"] ["way"] (defScope s_worth_of) := ⟨rfl, rfl, rfl, by decide +kernel, rfl, by decide +kernel, by decide +kernel⟩
theorem ok_worth_of (F : Fun K "worth_of" "worth_of" s_worth_of f fd) (C_need_way : Cal P w K mg base "need_way" 3 ["thing"] spNeedWay) (C_find_worth : Cal P w K mg base "find_worth" 21 ["way"] (spWorth 20)) : FnOk P w K mg base CX0 22 f fd ["way"] spWorthOf := by
  refine F.ok sc_worth_of (fun vs H Q E h => ?_) (fun cdv A outer s H vs Q E hr h => ?_)
  · obtain ⟨x, v, rfl, _⟩ := h
    rfl
  obtain ⟨wy, v, rfl, hw, h9, hB, q⟩ := h
  refine ⟨_, (@pss_cons _ _ _ _ _ (@ps_expr _ _ _ _ (@pe_cal _ _ _ _ _ _ _ _ _ _ _ C_need_way hr (by omega) rfl (@pa_cons _ _ _ _ _ (@pv _ 0 _ _ (by rfl) (by first | exact Or.inl rfl | exact Or.inr ( Or.inl rfl ) | exact Or.inr ( Or.inr rfl )) (by decide) (by decide)) pa_nil (by rfl)) (by decide) (by rfl) (by rfl)) (by rfl)) (@pss_one _ _ _ (@ps_ret _ _ _ _ (@pe_cal _ _ _ _ _ _ _ _ _ _ _ C_find_worth hr (by omega) rfl (@pa_cons _ _ _ _ _ (@pv _ 0 _ _ (by rfl) (by first | exact Or.inl rfl | exact Or.inr ( Or.inl rfl ) | exact Or.inr ( Or.inr rfl )) (by decide) (by decide)) pa_nil (by rfl)) (by decide) (by rfl) (by rfl))))), ?_⟩
  refine ⟨_, rfl, wy, v, rfl, hw, h9, fun H1 g1 => ?_⟩
  have dl := wy.deep_le
  exact ⟨_, rfl, wy, v, rfl, hw.mono (Tups.of g1), by omega, by omega, hB, q H1 g1⟩
def spNeedPlace : Sp := fun vs H Q _ => ∃ w v p, vs = [v, .int p] ∧ WyIn H w v ∧ w.size ≤ 20 ∧ 0 ≤ p ∧ p < w.size ∧ ∀ H', Same H H' → Q .non H'
abbrev s_need_place : Stmt := top 22
theorem sc_need_place : FnScope ["way", "thing"] ["way", "thing"] (defScope s_need_place) := ⟨rfl, rfl, rfl, by decide +kernel, rfl, by decide +kernel, by decide +kernel⟩
theorem ok_need_place (F : Fun K "need_place" "need_place" s_need_place f fd) (B : Bu K mg) (C_is_whole : Cal P w K mg base "is_whole" 1 ["thing"] (spWhole K)) (C_list_numbers : Cal P w K mg base "list_numbers" 21 ["way"] (spNums 20)) : FnOk P w K mg base CX0 22 f fd ["way", "thing"] spNeedPlace := by
  refine F.ok sc_need_place (fun vs H Q E h => ?_) (fun cdv A outer s H vs Q E hr h => ?_)
  · obtain ⟨x, v, p, rfl, _⟩ := h
    rfl
  obtain ⟨wy, v, p, rfl, hw, h20, h0, h1, q⟩ := h
  refine ⟨_, (@pss_one _ _ _ (@ps_if _ _ _ _ _ _ _ _ (@PW.pt _ _ _ (@pw_or _ _ _ _ _ _ _ (@pt_not _ _ _ _ (@pt_val _ _ _ (@pe_cal _ _ _ _ _ _ _ _ _ _ _ C_is_whole hr (by omega) rfl (@pa_cons _ _ _ _ _ (@pv _ 1 _ _ (by rfl) (by first | exact Or.inl rfl | exact Or.inr ( Or.inl rfl ) | exact Or.inr ( Or.inr rfl )) (by decide) (by decide)) pa_nil (by rfl)) (by decide) (by rfl) (by rfl)) (by intro _; rfl))) (@pw_or1 _ _ _ _ (@pt_not _ _ _ _ (@pt_chain _ _ _ _ _ _ _ _ _ _ _ _ op_le op_lt pe_int (@pv _ 1 _ _ (by rfl) (by first | exact Or.inl rfl | exact Or.inr ( Or.inl rfl ) | exact Or.inr ( Or.inr rfl )) (by decide) (by decide)) (@pe_callB _ _ _ _ _ _ _ _ _ call_len_seq rfl B.ilen PySem.boot_len (@pa_cons _ _ _ _ _ (@pe_cal _ _ _ _ _ _ _ _ _ _ _ C_list_numbers hr (by omega) rfl (@pa_cons _ _ _ _ _ (@pv _ 0 _ _ (by rfl) (by first | exact Or.inl rfl | exact Or.inr ( Or.inl rfl ) | exact Or.inr ( Or.inr rfl )) (by decide) (by decide)) pa_nil (by rfl)) (by decide) (by rfl) (by rfl)) pa_nil (by rfl)) (by decide) (by decide) (by rfl) (by rfl)) (by with_unfolding_all rfl)))))) (@pss_one _ _ _ ps_never) pss_nil)), ?_⟩
  have dl := wy.deep_le
  refine ⟨_, rfl, _, "int", rfl, .int p, true, rfl, iteF ?_⟩
  refine ⟨_, rfl, _, _, rfl, rfl, true, congrArg V.bl (decide_eq_true h0), iteT ?_⟩
  refine ⟨_, rfl, wy, v, rfl, hw, h20, by omega, fun p1 H1 g1 n1 e1 => ⟨p1, _, rfl, .inl (SqL.of e1), _, _, rfl, rfl, true, ?_, iteF (q H1 g1)⟩⟩
  rw [List.length_map, wy.nums_len]
  exact congrArg V.bl (decide_eq_true h1)
def spTp (n : Nat) : Sp := fun vs H Q _ => ∃ w v p, vs = [v, .int p] ∧ WyIn H w v ∧ w.size ≤ 20 ∧ w.deep ≤ n ∧ w.Bd ∧ ∀ a H', Same H H' → H a = none → H' a = some (.tup [.int (w.tp p).1, .int (w.tp p).2]) → Q (.ref a) H'
abbrev s_times_and_plus : Stmt := top 26
theorem sc_times_and_plus : FnScope ["way", "place", "sign", "left", "right", "left_times", "left_plus", "right_times", "right_plus"] ["way", "place"] (defScope s_times_and_plus) := ⟨rfl, rfl, rfl, by decide +kernel, rfl, by decide +kernel, by decide +kernel⟩
theorem ok_tp (F : Fun K "times_and_plus" "times_and_plus" s_times_and_plus f fd) (bF : Binds K fd ["way", "place"] []) (mF : mg "times_and_plus" = some (.ref f)) (B : Bu K mg) (C_is_whole : Cal P w K mg base "is_whole" 1 ["thing"] (spWhole K)) (C_put_sign : Cal P w K mg base "put_sign" 1 ["left", "sign", "right"] spPutSign)
    (C_list_numbers : Cal P w K mg base "list_numbers" 21 ["way"] (spNums 20)) : ∀ n, FnOk P w K mg base CX0 (n + 22) f fd ["way", "place"] (spTp n) := by
  intro n
  induction n with
  | zero =>
    refine ⟨fun vs H Q E h => ?_, fun A outer s H args us vs Q E _ _ _ _ h => ?_⟩
    · obtain ⟨x, v, p, rfl, _⟩ := h
      rfl
    · obtain ⟨wy, v, p, _, _, _, hd, _⟩ := h
      cases wy <;> exact absurd hd (by simp [Wy.deep])
  | succ n ih =>
    have C_times_and_plus : Cal P w K mg base "times_and_plus" (n + 22) ["way", "place"] (spTp n) := ⟨f, fd, ih, bF, F.kp, mF⟩
    refine F.ok sc_times_and_plus (fun vs H Q E h => ?_) (fun cdv A outer s H vs Q E hr h => ?_)
    · obtain ⟨x, v, p, rfl, _⟩ := h
      rfl
    obtain ⟨wy, v, p, rfl, hw, h20, hd, hB, q⟩ := h
    refine ⟨_, (@pss_cons _ _ _ _ _ (@ps_if _ _ _ _ _ _ _ _ (@pt_val _ _ _ (@pe_cal _ _ _ _ _ _ _ _ _ _ _ C_is_whole hr (by omega) rfl (@pa_cons _ _ _ _ _ (@pv _ 0 _ _ (by rfl) (by first | exact Or.inl rfl | exact Or.inr ( Or.inl rfl ) | exact Or.inr ( Or.inr rfl )) (by decide) (by decide)) pa_nil (by rfl)) (by decide) (by rfl) (by rfl)) (by intro _; rfl)) (@pss_one _ _ _ (@ps_ret _ _ _ _ (@pe_ifExp _ _ _ _ _ _ _ _ (@pt_cmpR _ _ _ _ _ _ _ _ op_eq (@pv _ 1 _ _ (by rfl) (by first | exact Or.inl rfl | exact Or.inr ( Or.inl rfl ) | exact Or.inr ( Or.inr rfl )) (by decide) (by decide)) pe_int (nomark _)) (@pe_tup _ _ _ _ _ (@pa_cons _ _ _ _ _ pe_int (@pa_cons _ _ _ _ _ pe_int pa_nil (by rfl)) (by rfl))) (@pe_tup _ _ _ _ _ (@pa_cons _ _ _ _ _ pe_int (@pa_cons _ _ _ _ _ (@pv _ 0 _ _ (by rfl) (by first | exact Or.inl rfl | exact Or.inr ( Or.inl rfl ) | exact Or.inr ( Or.inr rfl )) (by decide) (by decide)) pa_nil (by rfl)) (by rfl)))))) pss_nil) (@pss_cons _ _ _ _ _ (@ps_asg _ _ _ _ _ _ (@pv _ 0 _ _ (by rfl) (by first | exact Or.inl rfl | exact Or.inr ( Or.inl rfl ) | exact Or.inr ( Or.inr rfl )) (by decide) (by decide)) (@pg_tup _ _ _ _ _ _ rfl (@pgs_cons _ _ _ _ _ (@pg_name _ _ (2) _ (sc_times_and_plus).nd rfl (Or.inl rfl) (by first | exact .inl rfl | exact .inr rfl | assumption)) (@pgs_cons _ _ _ _ _ (@pg_name _ _ (3) _ (sc_times_and_plus).nd rfl (Or.inl rfl) (by first | exact .inl rfl | exact .inr rfl | assumption)) (@pgs_cons _ _ _ _ _ (@pg_name _ _ (4) _ (sc_times_and_plus).nd rfl (Or.inl rfl) (by first | exact .inl rfl | exact .inr rfl | assumption)) pgs_nil (by rfl)) (by rfl)) (by rfl)) (by rfl) (by rfl)) (by rfl) (by rfl) (by rfl)) (@pss_cons _ _ _ _ _ (@ps_asg _ _ _ _ _ _ (@pe_cal _ _ _ _ _ _ _ _ _ _ _ C_times_and_plus hr (by omega) rfl (@pa_cons _ _ _ _ _ (@pv _ 3 _ _ (by rfl) (by first | exact Or.inl rfl | exact Or.inr ( Or.inl rfl ) | exact Or.inr ( Or.inr rfl )) (by decide) (by decide)) (@pa_cons _ _ _ _ _ (@pv _ 1 _ _ (by rfl) (by first | exact Or.inl rfl | exact Or.inr ( Or.inl rfl ) | exact Or.inr ( Or.inr rfl )) (by decide) (by decide)) pa_nil (by rfl)) (by rfl)) (by decide) (by rfl) (by rfl)) (@pg_tup _ _ _ _ _ _ rfl (@pgs_cons _ _ _ _ _ (@pg_name _ _ (5) _ (sc_times_and_plus).nd rfl (Or.inl rfl) (by first | exact .inl rfl | exact .inr rfl | assumption)) (@pgs_cons _ _ _ _ _ (@pg_name _ _ (6) _ (sc_times_and_plus).nd rfl (Or.inl rfl) (by first | exact .inl rfl | exact .inr rfl | assumption)) pgs_nil (by rfl)) (by rfl)) (by rfl) (by rfl)) (by rfl) (by rfl) (by rfl)) (@pss_cons _ _ _ _ _ (@ps_asg _ _ _ _ _ _ (@pe_cal _ _ _ _ _ _ _ _ _ _ _ C_times_and_plus hr (by omega) rfl (@pa_cons _ _ _ _ _ (@pv _ 4 _ _ (by rfl) (by first | exact Or.inl rfl | exact Or.inr ( Or.inl rfl ) | exact Or.inr ( Or.inr rfl )) (by decide) (by decide)) (@pa_cons _ _ _ _ _ (@pe_op _ _ _ _ _ _ _ _ op_sub (@pv _ 1 _ _ (by rfl) (by first | exact Or.inl rfl | exact Or.inr ( Or.inl rfl ) | exact Or.inr ( Or.inr rfl )) (by decide) (by decide)) (@pe_callB _ _ _ _ _ _ _ _ _ call_len_seq rfl B.ilen PySem.boot_len (@pa_cons _ _ _ _ _ (@pe_cal _ _ _ _ _ _ _ _ _ _ _ C_list_numbers hr (by omega) rfl (@pa_cons _ _ _ _ _ (@pv _ 3 _ _ (by rfl) (by first | exact Or.inl rfl | exact Or.inr ( Or.inl rfl ) | exact Or.inr ( Or.inr rfl )) (by decide) (by decide)) pa_nil (by rfl)) (by decide) (by rfl) (by rfl)) pa_nil (by rfl)) (by decide) (by decide) (by rfl) (by rfl))) pa_nil (by rfl)) (by rfl)) (by decide) (by rfl) (by rfl)) (@pg_tup _ _ _ _ _ _ rfl (@pgs_cons _ _ _ _ _ (@pg_name _ _ (7) _ (sc_times_and_plus).nd rfl (Or.inl rfl) (by first | exact .inl rfl | exact .inr rfl | assumption)) (@pgs_cons _ _ _ _ _ (@pg_name _ _ (8) _ (sc_times_and_plus).nd rfl (Or.inl rfl) (by first | exact .inl rfl | exact .inr rfl | assumption)) pgs_nil (by rfl)) (by rfl)) (by rfl) (by rfl)) (by rfl) (by rfl) (by rfl)) (@pss_cons _ _ _ _ _ (@ps_if _ _ _ _ _ _ _ _ (@pt_cmpR _ _ _ _ _ _ _ _ op_eq (@pv _ 2 _ _ (by rfl) (by first | exact Or.inl rfl | exact Or.inr ( Or.inl rfl ) | exact Or.inr ( Or.inr rfl )) (by decide) (by decide)) pe_str (nomark _)) (@pss_one _ _ _ (@ps_ret _ _ _ _ (@pe_tup _ _ _ _ _ (@pa_cons _ _ _ _ _ (@pe_op _ _ _ _ _ _ _ _ op_add (@pe_op _ _ _ _ _ _ _ _ op_mulB (@pv _ 5 _ _ (by rfl) (by first | exact Or.inl rfl | exact Or.inr ( Or.inl rfl ) | exact Or.inr ( Or.inr rfl )) (by decide) (by decide)) (@pv _ 8 _ _ (by rfl) (by first | exact Or.inl rfl | exact Or.inr ( Or.inl rfl ) | exact Or.inr ( Or.inr rfl )) (by decide) (by decide))) (@pe_op _ _ _ _ _ _ _ _ op_mulB (@pv _ 6 _ _ (by rfl) (by first | exact Or.inl rfl | exact Or.inr ( Or.inl rfl ) | exact Or.inr ( Or.inr rfl )) (by decide) (by decide)) (@pv _ 7 _ _ (by rfl) (by first | exact Or.inl rfl | exact Or.inr ( Or.inl rfl ) | exact Or.inr ( Or.inr rfl )) (by decide) (by decide)))) (@pa_cons _ _ _ _ _ (@pe_op _ _ _ _ _ _ _ _ op_mulB (@pv _ 6 _ _ (by rfl) (by first | exact Or.inl rfl | exact Or.inr ( Or.inl rfl ) | exact Or.inr ( Or.inr rfl )) (by decide) (by decide)) (@pv _ 8 _ _ (by rfl) (by first | exact Or.inl rfl | exact Or.inr ( Or.inl rfl ) | exact Or.inr ( Or.inr rfl )) (by decide) (by decide))) pa_nil (by rfl)) (by rfl))))) pss_nil) (@pss_one _ _ _ (@ps_ret _ _ _ _ (@pe_tup _ _ _ _ _ (@pa_cons _ _ _ _ _ (@pe_cal _ _ _ _ _ _ _ _ _ _ _ C_put_sign hr (by omega) rfl (@pa_cons _ _ _ _ _ (@pv _ 5 _ _ (by rfl) (by first | exact Or.inl rfl | exact Or.inr ( Or.inl rfl ) | exact Or.inr ( Or.inr rfl )) (by decide) (by decide)) (@pa_cons _ _ _ _ _ (@pv _ 2 _ _ (by rfl) (by first | exact Or.inl rfl | exact Or.inr ( Or.inl rfl ) | exact Or.inr ( Or.inr rfl )) (by decide) (by decide)) (@pa_cons _ _ _ _ _ (@pv _ 7 _ _ (by rfl) (by first | exact Or.inl rfl | exact Or.inr ( Or.inl rfl ) | exact Or.inr ( Or.inr rfl )) (by decide) (by decide)) pa_nil (by rfl)) (by rfl)) (by rfl)) (by decide) (by rfl) (by rfl)) (@pa_cons _ _ _ _ _ (@pe_cal _ _ _ _ _ _ _ _ _ _ _ C_put_sign hr (by omega) rfl (@pa_cons _ _ _ _ _ (@pv _ 6 _ _ (by rfl) (by first | exact Or.inl rfl | exact Or.inr ( Or.inl rfl ) | exact Or.inr ( Or.inr rfl )) (by decide) (by decide)) (@pa_cons _ _ _ _ _ (@pv _ 2 _ _ (by rfl) (by first | exact Or.inl rfl | exact Or.inr ( Or.inl rfl ) | exact Or.inr ( Or.inr rfl )) (by decide) (by decide)) (@pa_cons _ _ _ _ _ (@pv _ 8 _ _ (by rfl) (by first | exact Or.inl rfl | exact Or.inr ( Or.inl rfl ) | exact Or.inr ( Or.inr rfl )) (by decide) (by decide)) pa_nil (by rfl)) (by rfl)) (by rfl)) (by decide) (by rfl) (by rfl)) pa_nil (by rfl)) (by rfl)))))))))), ?_⟩
    cases wy with
    | num i =>
      cases hw
      refine ⟨_, rfl, _, "int", rfl, .int i, true, rfl, iteT ⟨_, rfl, rfl, _, rfl, ite2 (fun c => ?_) (fun c => ?_)⟩⟩
      · have c2 : p = 0 := by
          have : V.int p = V.int 0 := of_decide_eq_true c
          injection this
        subst c2
        exact ⟨(by show 2 ≤ sizeLine; decide), fun a na => q a _ (Same.new na _) na upd_same⟩
      · have c2 : p ≠ 0 := fun e => c (by rw [e]; rfl)
        refine ⟨_, rfl, (by show 2 ≤ sizeLine; decide), fun a na => q a _ (Same.new na _) na ?_⟩
        have e : (Wy.num i).tp p = (0, i) := by unfold Wy.tp; rw [if_neg c2]
        rw [e]; exact upd_same
    | node g l r =>
      obtain ⟨a, vl, vr, rfl, ha, hl, hr'⟩ := hw
      refine ⟨_, rfl, _, "tuple", rfl, .tup ha, false, rfl, iteF ?_⟩
      have d : max l.deep r.deep + 1 ≤ n + 1 := hd
      have z : l.size + r.size ≤ 20 := h20
      have zl := l.size_pos; have zr := r.size_pos
      have dl := l.deep_le; have dr := r.deep_le
      refine ⟨_, rfl, a, _, rfl, SqT.of ha, rfl, _, _, rfl, _, _, rfl, _, _, rfl, rfl, ?_⟩
      refine ⟨_, rfl, _, rfl, l, vl, p, rfl, hl, by omega, by omega, hB.l, fun a1 H1 g1 n1 e1 => ?_⟩
      refine ⟨a1, _, rfl, SqT.of e1, rfl, _, _, rfl, _, _, rfl, rfl, ?_⟩
      refine ⟨_, rfl, _, rfl, _, rfl, l, vl, rfl, hl.mono (Tups.of g1), by omega, by omega, fun p2 H2 g2 n2 e2 => ⟨p2, _, rfl, .inl (SqL.of e2), _, _, rfl, rfl, ?_⟩⟩
      rw [List.length_map, l.nums_len]
      refine ⟨r, vr, p - l.size, rfl, hr'.mono (Tups.of (g1.trans g2)), by omega, by omega, hB.r, fun a3 H3 g3 n3 e3 => ?_⟩
      refine ⟨a3, _, rfl, SqT.of e3, rfl, _, _, rfl, _, _, rfl, rfl, ?_⟩
      have bl := l.tp_bd p hB.l
      have br := r.tp_bd (p - l.size) hB.r
      have b1 := big bl.1 (by omega); have b2 := big bl.2 (by omega); have b3 := big br.1 (by omega); have b4 := big br.2 (by omega)
      have G3 := (g1.trans g2).trans g3
      cases g with
      | times =>
        refine ⟨_, rfl, rfl, _, rfl, iteDT rfl ?_⟩
        refine ⟨_, rfl, _, rfl, _, _, rfl, rfl, ⟨b1, b4⟩, _, rfl, _, rfl, _, _, rfl, rfl, ⟨b2, b3⟩, _, _, rfl, rfl, _, rfl, _, rfl, _, _, rfl, rfl, ⟨b2, b4⟩, (by show 2 ≤ sizeLine; decide), fun a4 n4 => ?_⟩
        exact q a4 _ (G3.trans (Same.new n4 _)) (G3.free n4) upd_same
      | plus =>
        refine ⟨_, rfl, rfl, _, rfl, iteDF (by decide +kernel) ?_⟩
        refine ⟨_, rfl, _, rfl, _, rfl, _, .plus, _, rfl, b1, b3, _, rfl, _, rfl, _, rfl, _, .plus, _, rfl, b2, b4, (by show 2 ≤ sizeLine; decide), fun a4 n4 => ?_⟩
        exact q a4 _ (G3.trans (Same.new n4 _)) (G3.free n4) upd_same
      | minus =>
        refine ⟨_, rfl, rfl, _, rfl, iteDF (by decide +kernel) ?_⟩
        refine ⟨_, rfl, _, rfl, _, rfl, _, .minus, _, rfl, b1, b3, _, rfl, _, rfl, _, rfl, _, .minus, _, rfl, b2, b4, (by show 2 ≤ sizeLine; decide), fun a4 n4 => ?_⟩
        exact q a4 _ (G3.trans (Same.new n4 _)) (G3.free n4) upd_same
def spHangs : Sp := fun vs H Q _ => ∃ w v p, vs = [v, .int p] ∧ WyIn H w v ∧ w.size ≤ 9 ∧ 0 ≤ p ∧ p < w.size ∧ w.Bd ∧ ∀ a H', Same H H' → H a = none → H' a = some (.tup [.int (w.tp p).1, .int (w.tp p).2]) → Q (.ref a) H'
abbrev s_hangs_by : Stmt := top 20
theorem sc_hangs_by : FnScope ["way", "place"] ["way", "place"] (defScope s_hangs_by) := ⟨rfl, rfl, rfl, by decide +kernel, rfl, by decide +kernel, by decide +kernel⟩
theorem ok_hangs_by (F : Fun K "hangs_by" "hangs_by" s_hangs_by f fd) (C_need_way : Cal P w K mg base "need_way" 3 ["thing"] spNeedWay) (C_need_place : Cal P w K mg base "need_place" 22 ["way", "thing"] spNeedPlace) (C_times_and_plus : Cal P w K mg base "times_and_plus" 42 ["way", "place"] (spTp 20)) :
    FnOk P w K mg base CX0 43 f fd ["way", "place"] spHangs := by
  refine F.ok sc_hangs_by (fun vs H Q E h => ?_) (fun cdv A outer s H vs Q E hr h => ?_)
  · obtain ⟨x, v, p, rfl, _⟩ := h
    rfl
  obtain ⟨wy, v, p, rfl, hw, h9, h0, h1, hB, q⟩ := h
  refine ⟨_, (@pss_cons _ _ _ _ _ (@ps_expr _ _ _ _ (@pe_cal _ _ _ _ _ _ _ _ _ _ _ C_need_way hr (by omega) rfl (@pa_cons _ _ _ _ _ (@pv _ 0 _ _ (by rfl) (by first | exact Or.inl rfl | exact Or.inr ( Or.inl rfl ) | exact Or.inr ( Or.inr rfl )) (by decide) (by decide)) pa_nil (by rfl)) (by decide) (by rfl) (by rfl)) (by rfl)) (@pss_cons _ _ _ _ _ (@ps_expr _ _ _ _ (@pe_cal _ _ _ _ _ _ _ _ _ _ _ C_need_place hr (by omega) rfl (@pa_cons _ _ _ _ _ (@pv _ 0 _ _ (by rfl) (by first | exact Or.inl rfl | exact Or.inr ( Or.inl rfl ) | exact Or.inr ( Or.inr rfl )) (by decide) (by decide)) (@pa_cons _ _ _ _ _ (@pv _ 1 _ _ (by rfl) (by first | exact Or.inl rfl | exact Or.inr ( Or.inl rfl ) | exact Or.inr ( Or.inr rfl )) (by decide) (by decide)) pa_nil (by rfl)) (by rfl)) (by decide) (by rfl) (by rfl)) (by rfl)) (@pss_one _ _ _ (@ps_ret _ _ _ _ (@pe_cal _ _ _ _ _ _ _ _ _ _ _ C_times_and_plus hr (by omega) rfl (@pa_cons _ _ _ _ _ (@pv _ 0 _ _ (by rfl) (by first | exact Or.inl rfl | exact Or.inr ( Or.inl rfl ) | exact Or.inr ( Or.inr rfl )) (by decide) (by decide)) (@pa_cons _ _ _ _ _ (@pv _ 1 _ _ (by rfl) (by first | exact Or.inl rfl | exact Or.inr ( Or.inl rfl ) | exact Or.inr ( Or.inr rfl )) (by decide) (by decide)) pa_nil (by rfl)) (by rfl)) (by decide) (by rfl) (by rfl)))))), ?_⟩
  have dl := wy.deep_le
  refine ⟨_, rfl, wy, v, rfl, hw, h9, fun H1 g1 => ?_⟩
  refine ⟨_, rfl, _, rfl, wy, v, p, rfl, hw.mono (Tups.of g1), by omega, h0, h1, fun H2 g2 => ?_⟩
  exact ⟨_, rfl, _, rfl, wy, v, p, rfl, hw.mono (Tups.of (g1.trans g2)), by omega, by omega, hB, fun a H3 g3 n3 e3 => q a H3 ((g1.trans g2).trans g3) ((g1.trans g2).free n3) e3⟩
def spPutN (n : Nat) : Sp := fun vs H Q _ => ∃ w v p m, vs = [v, .int p, .int m] ∧ WyIn H w v ∧ w.size ≤ 20 ∧ w.deep ≤ n ∧ ∀ u H', Same H H' → WyIn H' (w.put p m) u → Q u H'
abbrev s_put_number : Stmt := top 27
theorem sc_put_number : FnScope ["way", "place", "number", "sign", "left", "right", "right_place"] ["way", "place", "number"] (defScope s_put_number) := ⟨rfl, rfl, rfl, by decide +kernel, rfl, by decide +kernel, by decide +kernel⟩
theorem ok_put_number (F : Fun K "put_number" "put_number" s_put_number f fd) (bF : Binds K fd ["way", "place", "number"] []) (mF : mg "put_number" = some (.ref f)) (B : Bu K mg) (C_is_whole : Cal P w K mg base "is_whole" 1 ["thing"] (spWhole K))
    (C_list_numbers : Cal P w K mg base "list_numbers" 21 ["way"] (spNums 20)) : ∀ n, FnOk P w K mg base CX0 (n + 22) f fd ["way", "place", "number"] (spPutN n) := by
  intro n
  induction n with
  | zero =>
    refine ⟨fun vs H Q E h => ?_, fun A outer s H args us vs Q E _ _ _ _ h => ?_⟩
    · obtain ⟨x, v, p, m, rfl, _⟩ := h
      rfl
    · obtain ⟨wy, v, p, m, _, _, _, hd, _⟩ := h
      cases wy <;> exact absurd hd (by simp [Wy.deep])
  | succ n ih =>
    have C_put_number : Cal P w K mg base "put_number" (n + 22) ["way", "place", "number"] (spPutN n) := ⟨f, fd, ih, bF, F.kp, mF⟩
    refine F.ok sc_put_number (fun vs H Q E h => ?_) (fun cdv A outer s H vs Q E hr h => ?_)
    · obtain ⟨x, v, p, m, rfl, _⟩ := h
      rfl
    obtain ⟨wy, v, p, m, rfl, hw, h20, hd, q⟩ := h
    refine ⟨_, (@pss_cons _ _ _ _ _ (@ps_if _ _ _ _ _ _ _ _ (@pt_val _ _ _ (@pe_cal _ _ _ _ _ _ _ _ _ _ _ C_is_whole hr (by omega) rfl (@pa_cons _ _ _ _ _ (@pv _ 0 _ _ (by rfl) (by first | exact Or.inl rfl | exact Or.inr ( Or.inl rfl ) | exact Or.inr ( Or.inr rfl )) (by decide) (by decide)) pa_nil (by rfl)) (by decide) (by rfl) (by rfl)) (by intro _; rfl)) (@pss_one _ _ _ (@ps_ret _ _ _ _ (@pe_ifExp _ _ _ _ _ _ _ _ (@pt_cmpR _ _ _ _ _ _ _ _ op_eq (@pv _ 1 _ _ (by rfl) (by first | exact Or.inl rfl | exact Or.inr ( Or.inl rfl ) | exact Or.inr ( Or.inr rfl )) (by decide) (by decide)) pe_int (nomark _)) (@pv _ 2 _ _ (by rfl) (by first | exact Or.inl rfl | exact Or.inr ( Or.inl rfl ) | exact Or.inr ( Or.inr rfl )) (by decide) (by decide)) (@pv _ 0 _ _ (by rfl) (by first | exact Or.inl rfl | exact Or.inr ( Or.inl rfl ) | exact Or.inr ( Or.inr rfl )) (by decide) (by decide))))) pss_nil) (@pss_cons _ _ _ _ _ (@ps_asg _ _ _ _ _ _ (@pv _ 0 _ _ (by rfl) (by first | exact Or.inl rfl | exact Or.inr ( Or.inl rfl ) | exact Or.inr ( Or.inr rfl )) (by decide) (by decide)) (@pg_tup _ _ _ _ _ _ rfl (@pgs_cons _ _ _ _ _ (@pg_name _ _ (3) _ (sc_put_number).nd rfl (Or.inl rfl) (by first | exact .inl rfl | exact .inr rfl | assumption)) (@pgs_cons _ _ _ _ _ (@pg_name _ _ (4) _ (sc_put_number).nd rfl (Or.inl rfl) (by first | exact .inl rfl | exact .inr rfl | assumption)) (@pgs_cons _ _ _ _ _ (@pg_name _ _ (5) _ (sc_put_number).nd rfl (Or.inl rfl) (by first | exact .inl rfl | exact .inr rfl | assumption)) pgs_nil (by rfl)) (by rfl)) (by rfl)) (by rfl) (by rfl)) (by rfl) (by rfl) (by rfl)) (@pss_cons _ _ _ _ _ (@ps_set _ _ (6) _ _ _ _ (sc_put_number).nd rfl (Or.inl rfl) (@pe_op _ _ _ _ _ _ _ _ op_sub (@pv _ 1 _ _ (by rfl) (by first | exact Or.inl rfl | exact Or.inr ( Or.inl rfl ) | exact Or.inr ( Or.inr rfl )) (by decide) (by decide)) (@pe_callB _ _ _ _ _ _ _ _ _ call_len_seq rfl B.ilen PySem.boot_len (@pa_cons _ _ _ _ _ (@pe_cal _ _ _ _ _ _ _ _ _ _ _ C_list_numbers hr (by omega) rfl (@pa_cons _ _ _ _ _ (@pv _ 4 _ _ (by rfl) (by first | exact Or.inl rfl | exact Or.inr ( Or.inl rfl ) | exact Or.inr ( Or.inr rfl )) (by decide) (by decide)) pa_nil (by rfl)) (by decide) (by rfl) (by rfl)) pa_nil (by rfl)) (by decide) (by decide) (by rfl) (by rfl))) (by rfl) (by first | exact .inl rfl | exact .inr rfl | assumption)) (@pss_one _ _ _ (@ps_ret _ _ _ _ (@pe_tup _ _ _ _ _ (@pa_cons _ _ _ _ _ (@pv _ 3 _ _ (by rfl) (by first | exact Or.inl rfl | exact Or.inr ( Or.inl rfl ) | exact Or.inr ( Or.inr rfl )) (by decide) (by decide)) (@pa_cons _ _ _ _ _ (@pe_cal _ _ _ _ _ _ _ _ _ _ _ C_put_number hr (by omega) rfl (@pa_cons _ _ _ _ _ (@pv _ 4 _ _ (by rfl) (by first | exact Or.inl rfl | exact Or.inr ( Or.inl rfl ) | exact Or.inr ( Or.inr rfl )) (by decide) (by decide)) (@pa_cons _ _ _ _ _ (@pv _ 1 _ _ (by rfl) (by first | exact Or.inl rfl | exact Or.inr ( Or.inl rfl ) | exact Or.inr ( Or.inr rfl )) (by decide) (by decide)) (@pa_cons _ _ _ _ _ (@pv _ 2 _ _ (by rfl) (by first | exact Or.inl rfl | exact Or.inr ( Or.inl rfl ) | exact Or.inr ( Or.inr rfl )) (by decide) (by decide)) pa_nil (by rfl)) (by rfl)) (by rfl)) (by decide) (by rfl) (by rfl)) (@pa_cons _ _ _ _ _ (@pe_cal _ _ _ _ _ _ _ _ _ _ _ C_put_number hr (by omega) rfl (@pa_cons _ _ _ _ _ (@pv _ 5 _ _ (by rfl) (by first | exact Or.inl rfl | exact Or.inr ( Or.inl rfl ) | exact Or.inr ( Or.inr rfl )) (by decide) (by decide)) (@pa_cons _ _ _ _ _ (@pv _ 6 _ _ (by rfl) (by first | exact Or.inl rfl | exact Or.inr ( Or.inl rfl ) | exact Or.inr ( Or.inr rfl )) (by decide) (by decide)) (@pa_cons _ _ _ _ _ (@pv _ 2 _ _ (by rfl) (by first | exact Or.inl rfl | exact Or.inr ( Or.inl rfl ) | exact Or.inr ( Or.inr rfl )) (by decide) (by decide)) pa_nil (by rfl)) (by rfl)) (by rfl)) (by decide) (by rfl) (by rfl)) pa_nil (by rfl)) (by rfl)) (by rfl)))))))), ?_⟩
    cases wy with
    | num i =>
      cases hw
      refine ⟨_, rfl, _, "int", rfl, .int i, true, rfl, iteT ⟨_, rfl, rfl, _, rfl, ite2 (fun c => ?_) (fun c => ?_)⟩⟩
      · have c2 : p = 0 := by
          have : V.int p = V.int 0 := of_decide_eq_true c
          injection this
        subst c2
        exact ⟨_, rfl, q _ H (Same.refl _) rfl⟩
      · have c2 : p ≠ 0 := fun e => c (by rw [e]; rfl)
        refine ⟨_, rfl, q _ H (Same.refl _) ?_⟩
        unfold Wy.put; rw [if_neg c2]; rfl
    | node g l r =>
      obtain ⟨a, vl, vr, rfl, ha, hl, hr'⟩ := hw
      refine ⟨_, rfl, _, "tuple", rfl, .tup ha, false, rfl, iteF ?_⟩
      have d : max l.deep r.deep + 1 ≤ n + 1 := hd
      have z : l.size + r.size ≤ 20 := h20
      have zl := l.size_pos; have zr := r.size_pos
      have dl := l.deep_le; have dr := r.deep_le
      refine ⟨_, rfl, a, _, rfl, SqT.of ha, rfl, _, _, rfl, _, _, rfl, _, _, rfl, rfl, ?_⟩
      refine ⟨_, rfl, _, rfl, l, vl, rfl, hl, by omega, by omega, fun p2 H2 g2 n2 e2 => ⟨p2, _, rfl, .inl (SqL.of e2), _, _, rfl, rfl, ?_⟩⟩
      rw [List.length_map, l.nums_len]
      refine ⟨_, rfl, _, rfl, _, rfl, _, rfl, l, vl, p, m, rfl, hl.mono (Tups.of g2), by omega, by omega, fun ul H3 g3 i3 => ?_⟩
      refine ⟨_, rfl, _, rfl, _, rfl, r, vr, p - l.size, m, rfl, hr'.mono (Tups.of (g2.trans g3)), by omega, by omega, fun ur H4 g4 i4 => ⟨(by show 3 ≤ sizeLine; decide), fun a5 n5 => ?_⟩⟩
      have g5 := Same.new n5 (.tup [.str g.str, ul, ur])
      exact q _ _ (((g2.trans g3).trans g4).trans g5) ⟨a5, ul, ur, rfl, upd_same, i3.mono (Tups.of (g4.trans g5)), i4.mono (Tups.of g5)⟩
def spWithNumber : Sp := fun vs H Q _ => ∃ w v p m, vs = [v, .int p, .int m] ∧ WyIn H w v ∧ w.size ≤ 9 ∧ 0 ≤ p ∧ p < w.size ∧ ∀ u H', Same H H' → WyIn H' (w.put p m) u → Q u H'
abbrev s_with_number : Stmt := top 21
theorem sc_with_number : FnScope ["way", "place", "number"] ["way", "place", "number"] (defScope s_with_number) := ⟨rfl, rfl, rfl, by decide +kernel, rfl, by decide +kernel, by decide +kernel⟩
theorem ok_with_number (F : Fun K "with_number" "with_number" s_with_number f fd) (C_need_way : Cal P w K mg base "need_way" 3 ["thing"] spNeedWay) (C_need_place : Cal P w K mg base "need_place" 22 ["way", "thing"] spNeedPlace) (C_need_whole : Cal P w K mg base "need_whole" 2 ["thing"] spNeedWhole)
    (C_put_number : Cal P w K mg base "put_number" 42 ["way", "place", "number"] (spPutN 20)) : FnOk P w K mg base CX0 43 f fd ["way", "place", "number"] spWithNumber := by
  refine F.ok sc_with_number (fun vs H Q E h => ?_) (fun cdv A outer s H vs Q E hr h => ?_)
  · obtain ⟨x, v, p, m, rfl, _⟩ := h
    rfl
  obtain ⟨wy, v, p, m, rfl, hw, h9, h0, h1, q⟩ := h
  refine ⟨_, (@pss_cons _ _ _ _ _ (@ps_expr _ _ _ _ (@pe_cal _ _ _ _ _ _ _ _ _ _ _ C_need_way hr (by omega) rfl (@pa_cons _ _ _ _ _ (@pv _ 0 _ _ (by rfl) (by first | exact Or.inl rfl | exact Or.inr ( Or.inl rfl ) | exact Or.inr ( Or.inr rfl )) (by decide) (by decide)) pa_nil (by rfl)) (by decide) (by rfl) (by rfl)) (by rfl)) (@pss_cons _ _ _ _ _ (@ps_expr _ _ _ _ (@pe_cal _ _ _ _ _ _ _ _ _ _ _ C_need_place hr (by omega) rfl (@pa_cons _ _ _ _ _ (@pv _ 0 _ _ (by rfl) (by first | exact Or.inl rfl | exact Or.inr ( Or.inl rfl ) | exact Or.inr ( Or.inr rfl )) (by decide) (by decide)) (@pa_cons _ _ _ _ _ (@pv _ 1 _ _ (by rfl) (by first | exact Or.inl rfl | exact Or.inr ( Or.inl rfl ) | exact Or.inr ( Or.inr rfl )) (by decide) (by decide)) pa_nil (by rfl)) (by rfl)) (by decide) (by rfl) (by rfl)) (by rfl)) (@pss_cons _ _ _ _ _ (@ps_expr _ _ _ _ (@pe_cal _ _ _ _ _ _ _ _ _ _ _ C_need_whole hr (by omega) rfl (@pa_cons _ _ _ _ _ (@pv _ 2 _ _ (by rfl) (by first | exact Or.inl rfl | exact Or.inr ( Or.inl rfl ) | exact Or.inr ( Or.inr rfl )) (by decide) (by decide)) pa_nil (by rfl)) (by decide) (by rfl) (by rfl)) (by rfl)) (@pss_one _ _ _ (@ps_ret _ _ _ _ (@pe_cal _ _ _ _ _ _ _ _ _ _ _ C_put_number hr (by omega) rfl (@pa_cons _ _ _ _ _ (@pv _ 0 _ _ (by rfl) (by first | exact Or.inl rfl | exact Or.inr ( Or.inl rfl ) | exact Or.inr ( Or.inr rfl )) (by decide) (by decide)) (@pa_cons _ _ _ _ _ (@pv _ 1 _ _ (by rfl) (by first | exact Or.inl rfl | exact Or.inr ( Or.inl rfl ) | exact Or.inr ( Or.inr rfl )) (by decide) (by decide)) (@pa_cons _ _ _ _ _ (@pv _ 2 _ _ (by rfl) (by first | exact Or.inl rfl | exact Or.inr ( Or.inl rfl ) | exact Or.inr ( Or.inr rfl )) (by decide) (by decide)) pa_nil (by rfl)) (by rfl)) (by rfl)) (by decide) (by rfl) (by rfl))))))), ?_⟩
  have dl := wy.deep_le
  refine ⟨_, rfl, wy, v, rfl, hw, h9, fun H1 g1 => ?_⟩
  refine ⟨_, rfl, _, rfl, wy, v, p, rfl, hw.mono (Tups.of g1), by omega, h0, h1, fun H2 g2 => ?_⟩
  refine ⟨_, rfl, m, rfl, ?_⟩
  exact ⟨_, rfl, _, rfl, _, rfl, wy, v, p, m, rfl, hw.mono (Tups.of (g1.trans g2)), by omega, by omega, fun u H3 g3 i3 => q u H3 ((g1.trans g2).trans g3) i3⟩
end
end Put

set_option Elab.async false
set_option linter.all false
set_option maxRecDepth 100000
set_option maxHeartbeats 2000000
namespace Put
open PySem L2
/-! ### the worths of the stretches -/
def k2 (i j : Int) : List Key := [.inl i, .inl j]
theorem k2_inj {a b c d : Int} (h : k2 a b = k2 c d) : a = c ∧ b = d := by
  unfold k2 at h
  injection h with h1 h2
  injection h2 with h2 _
  exact ⟨by injection h1, by injection h2⟩
def Wy.pwl : Wy → Int → List (List Key × V)
  | .num n, f => [(k2 f f, .int n)]
  | .node g l r, f => l.pwl f ++ r.pwl (f + l.size) ++ [(k2 f (f + l.size + r.size - 1), .int (g.op l.worth r.worth))]
theorem Wy.pwl_len : ∀ (w : Wy) (f : Int), (w.pwl f).length + 1 = 2 * w.size
  | .num _, _ => rfl
  | .node g l r, f => by
    have a := l.pwl_len f; have b := r.pwl_len (f + l.size)
    show (l.pwl f ++ r.pwl (f + l.size) ++ [(k2 f (f + l.size + r.size - 1), V.int (g.op l.worth r.worth))]).length + 1 = 2 * (l.size + r.size)
    rw [List.length_append, List.length_append, List.length_singleton]; omega
theorem Wy.pwl_in : ∀ (w : Wy) (f : Int) (p : List Key × V), p ∈ w.pwl f → ∃ i j n, p = (k2 i j, V.int n) ∧ f ≤ i ∧ i ≤ j ∧ j < f + w.size
  | .num n, f, p, h => by
    have e : p = (k2 f f, V.int n) := by simpa [Wy.pwl] using h
    exact ⟨f, f, n, e, Int.le_refl _, Int.le_refl _, by show f < f + ((1 : Nat) : Int); omega⟩
  | .node g l r, f, p, h => by
    have zl := l.size_pos; have zr := r.size_pos
    have e : (((Wy.node g l r).size : Nat) : Int) = l.size + r.size := by show ((l.size + r.size : Nat) : Int) = _; omega
    rw [e]
    have h' : p ∈ l.pwl f ++ r.pwl (f + l.size) ++ [(k2 f (f + l.size + r.size - 1), V.int (g.op l.worth r.worth))] := h
    rcases List.mem_append.mp h' with h1 | h1
    · rcases List.mem_append.mp h1 with h2 | h2
      · obtain ⟨i, j, n, q, a, b, c⟩ := l.pwl_in f p h2
        exact ⟨i, j, n, q, by omega, by omega, by omega⟩
      · obtain ⟨i, j, n, q, a, b, c⟩ := r.pwl_in _ p h2
        exact ⟨i, j, n, q, by omega, by omega, by omega⟩
    · have q : p = (k2 f (f + l.size + r.size - 1), V.int (g.op l.worth r.worth)) := by simpa using h1
      exact ⟨_, _, _, q, by omega, by omega, by omega⟩
theorem Wy.pwl_lr (l r : Wy) (f : Int) (hl : ((l.pwl f).map (·.1)).Nodup) (hr : ((r.pwl (f + l.size)).map (·.1)).Nodup) : ((l.pwl f ++ r.pwl (f + l.size)).map (·.1)).Nodup := by
  rw [List.map_append]
  refine List.nodup_append.mpr ⟨hl, hr, fun a ha b hb e => ?_⟩
  obtain ⟨p, hp, rfl⟩ := List.mem_map.mp ha
  obtain ⟨q, hq, rfl⟩ := List.mem_map.mp hb
  obtain ⟨i, j, n, e1, a1, b1, c1⟩ := l.pwl_in f p hp
  obtain ⟨i', j', n', e2, a2, b2, c2⟩ := r.pwl_in _ q hq
  subst e1 e2
  have := k2_inj e
  omega
theorem Wy.pwl_top (g : Sg) (l r : Wy) (f : Int) : k2 f (f + l.size + r.size - 1) ∉ (l.pwl f ++ r.pwl (f + l.size)).map (·.1) := fun h => by
  have zl := l.size_pos; have zr := r.size_pos
  obtain ⟨p, hp, e⟩ := List.mem_map.mp h
  rcases List.mem_append.mp hp with h2 | h2
  · obtain ⟨i, j, n, q, a, b, c⟩ := l.pwl_in f p h2
    subst q
    have := k2_inj e
    omega
  · obtain ⟨i, j, n, q, a, b, c⟩ := r.pwl_in _ p h2
    subst q
    have := k2_inj e
    omega
theorem Wy.pwl_nodup : ∀ (w : Wy) (f : Int), ((w.pwl f).map (·.1)).Nodup
  | .num _, _ => by show ([_] : List (List Key)).Nodup; simp
  | .node g l r, f => by
    show ((l.pwl f ++ r.pwl (f + l.size) ++ [(k2 f (f + l.size + r.size - 1), V.int (g.op l.worth r.worth))]).map (·.1)).Nodup
    rw [List.map_append]
    refine List.nodup_append.mpr ⟨Wy.pwl_lr l r f (l.pwl_nodup f) (r.pwl_nodup _), by simp, fun a ha b hb e => ?_⟩
    have e2 : b = k2 f (f + l.size + r.size - 1) := by simpa using hb
    rw [e, e2] at ha
    exact Wy.pwl_top g l r f ha
theorem val_mem : ∀ {kvs : List (List Key × V)} {k : List Key} {v : V}, (kvs.map (·.1)).Nodup → (k, v) ∈ kvs → valV kvs k = some v
  | [], _, _, _, h => nomatch h
  | p :: r, k, v, hn, h => by
    rw [List.map_cons, List.nodup_cons] at hn
    rcases List.mem_cons.mp h with e | h
    · subst e; exact valV_pos rfl
    · have ne : p.1 ≠ k := fun e => hn.1 (List.mem_map.mpr ⟨(k, v), h, e.symm⟩)
      rw [valV_neg ne]; exact val_mem hn.2 h
theorem Wy.pwl_mem : ∀ (w : Wy) (f : Int), (k2 f (f + w.size - 1), V.int w.worth) ∈ w.pwl f
  | .num n, f => by
    have e : f + ((Wy.num n).size : Int) - 1 = f := by show f + ((1 : Nat) : Int) - 1 = f; omega
    rw [e]; exact List.mem_cons_self
  | .node g l r, f => by
    have e : f + ((Wy.node g l r).size : Int) - 1 = f + l.size + r.size - 1 := by show f + ((l.size + r.size : Nat) : Int) - 1 = _; omega
    rw [e]; exact List.mem_append_right _ List.mem_cons_self
theorem putK_new {kvs : List (List Key × V)} {k : List Key} {v : V} (h : k ∉ kvs.map (·.1)) : putK kvs k v = kvs ++ [(k, v)] := by
  unfold putK
  rw [if_neg]
  intro q
  obtain ⟨p, hp, e⟩ := List.any_eq_true.mp q
  exact h (List.mem_map.mpr ⟨p, hp, of_decide_eq_true e⟩)
theorem merge_app : ∀ (more kvs : List (List Key × V)), ((kvs ++ more).map (·.1)).Nodup → mergeT kvs more = kvs ++ more
  | [], kvs, _ => by rw [List.append_nil]; rfl
  | p :: r, kvs, h => by
    have hp : p.1 ∉ kvs.map (·.1) := fun q => by
      rw [List.map_append, List.map_cons] at h
      exact (List.nodup_append.mp h).2.2 _ q _ List.mem_cons_self rfl
    show mergeT (putK kvs p.1 p.2) r = _
    rw [putK_new hp, merge_app r (kvs ++ [(p.1, p.2)]) (by rw [List.append_assoc]; exact h), List.append_assoc]
    rfl
section
variable {P : Program} {w : World} {K : PySem.W.Frag} {mg : Str → Option Value} {base : Heap} {f : Addr} {fd : FuncData}
def spWbs (n : Nat) : Sp := fun vs H Q _ => ∃ (w : Wy) (v : V) (fi : Int), vs = [v, .int fi] ∧ WyIn H w v ∧ w.size ≤ 20 ∧ w.deep ≤ n ∧ w.Bd ∧ ∀ p H', Same H H' → H p = none → H' p = some (.dT (w.pwl fi)) → Q (.ref p) H'
abbrev s_worths_by_stretch : Stmt := top 25
theorem sc_worths_by_stretch : FnScope ["way", "first", "sign", "left", "right", "cut", "last", "worths"] ["way", "first"] (defScope s_worths_by_stretch) := ⟨rfl, rfl, rfl, by decide +kernel, rfl, by decide +kernel, by decide +kernel⟩
theorem ok_wbs (F : Fun K "worths_by_stretch" "worths_by_stretch" s_worths_by_stretch f fd) (bF : Binds K fd ["way", "first"] []) (mF : mg "worths_by_stretch" = some (.ref f)) (B : Bu K mg) (C_is_whole : Cal P w K mg base "is_whole" 1 ["thing"] (spWhole K))
    (C_list_numbers : Cal P w K mg base "list_numbers" 21 ["way"] (spNums 20)) (C_put_sign : Cal P w K mg base "put_sign" 1 ["left", "sign", "right"] spPutSign) : ∀ n, FnOk P w K mg base CX0 (n + 22) f fd ["way", "first"] (spWbs n) := by
  intro n
  induction n with
  | zero =>
    refine ⟨fun vs H Q E h => ?_, fun A outer s H args us vs Q E _ _ _ _ h => ?_⟩
    · obtain ⟨x, v, fi, rfl, _⟩ := h
      rfl
    · obtain ⟨wy, v, fi, _, _, _, hd, _⟩ := h
      cases wy <;> exact absurd hd (by simp [Wy.deep])
  | succ n ih =>
    have C_worths_by_stretch : Cal P w K mg base "worths_by_stretch" (n + 22) ["way", "first"] (spWbs n) := ⟨f, fd, ih, bF, F.kp, mF⟩
    refine F.ok sc_worths_by_stretch (fun vs H Q E h => ?_) (fun cdv A outer s H vs Q E hr h => ?_)
    · obtain ⟨x, v, fi, rfl, _⟩ := h
      rfl
    obtain ⟨wy, v, fi, rfl, hw, h20, hd, hB, q⟩ := h
    refine ⟨_, (@pss_cons _ _ _ _ _ (@ps_if _ _ _ _ _ _ _ _ (@pt_val _ _ _ (@pe_cal _ _ _ _ _ _ _ _ _ _ _ C_is_whole hr (by omega) rfl (@pa_cons _ _ _ _ _ (@pv _ 0 _ _ (by rfl) (by first | exact Or.inl rfl | exact Or.inr ( Or.inl rfl ) | exact Or.inr ( Or.inr rfl )) (by decide) (by decide)) pa_nil (by rfl)) (by decide) (by rfl) (by rfl)) (by intro _; rfl)) (@pss_one _ _ _ (@ps_ret _ _ _ _ (@pe_dispT _ _ _ _ _ (u1 hr.units) (@pps_cons _ _ _ _ _ _ _ _ _ (@pe_tup _ _ _ _ _ (@pa_cons _ _ _ _ _ (@pv _ 1 _ _ (by rfl) (by first | exact Or.inl rfl | exact Or.inr ( Or.inl rfl ) | exact Or.inr ( Or.inr rfl )) (by decide) (by decide)) (@pa_cons _ _ _ _ _ (@pv _ 1 _ _ (by rfl) (by first | exact Or.inl rfl | exact Or.inr ( Or.inl rfl ) | exact Or.inr ( Or.inr rfl )) (by decide) (by decide)) pa_nil (by rfl)) (by rfl))) (@pv _ 0 _ _ (by rfl) (by first | exact Or.inl rfl | exact Or.inr ( Or.inl rfl ) | exact Or.inr ( Or.inr rfl )) (by decide) (by decide)) pps_nil) (by rfl) (by rfl) (by simp) (by decide)))) pss_nil) (@pss_cons _ _ _ _ _ (@ps_asg _ _ _ _ _ _ (@pv _ 0 _ _ (by rfl) (by first | exact Or.inl rfl | exact Or.inr ( Or.inl rfl ) | exact Or.inr ( Or.inr rfl )) (by decide) (by decide)) (@pg_tup _ _ _ _ _ _ rfl (@pgs_cons _ _ _ _ _ (@pg_name _ _ (2) _ (sc_worths_by_stretch).nd rfl (Or.inl rfl) (by first | exact .inl rfl | exact .inr rfl | assumption)) (@pgs_cons _ _ _ _ _ (@pg_name _ _ (3) _ (sc_worths_by_stretch).nd rfl (Or.inl rfl) (by first | exact .inl rfl | exact .inr rfl | assumption)) (@pgs_cons _ _ _ _ _ (@pg_name _ _ (4) _ (sc_worths_by_stretch).nd rfl (Or.inl rfl) (by first | exact .inl rfl | exact .inr rfl | assumption)) pgs_nil (by rfl)) (by rfl)) (by rfl)) (by rfl) (by rfl)) (by rfl) (by rfl) (by rfl)) (@pss_cons _ _ _ _ _ (@ps_set _ _ (5) _ _ _ _ (sc_worths_by_stretch).nd rfl (Or.inl rfl) (@pe_op _ _ _ _ _ _ _ _ op_add (@pv _ 1 _ _ (by rfl) (by first | exact Or.inl rfl | exact Or.inr ( Or.inl rfl ) | exact Or.inr ( Or.inr rfl )) (by decide) (by decide)) (@pe_callB _ _ _ _ _ _ _ _ _ call_len_seq rfl B.ilen PySem.boot_len (@pa_cons _ _ _ _ _ (@pe_cal _ _ _ _ _ _ _ _ _ _ _ C_list_numbers hr (by omega) rfl (@pa_cons _ _ _ _ _ (@pv _ 3 _ _ (by rfl) (by first | exact Or.inl rfl | exact Or.inr ( Or.inl rfl ) | exact Or.inr ( Or.inr rfl )) (by decide) (by decide)) pa_nil (by rfl)) (by decide) (by rfl) (by rfl)) pa_nil (by rfl)) (by decide) (by decide) (by rfl) (by rfl))) (by rfl) (by first | exact .inl rfl | exact .inr rfl | assumption)) (@pss_cons _ _ _ _ _ (@ps_set _ _ (6) _ _ _ _ (sc_worths_by_stretch).nd rfl (Or.inl rfl) (@pe_op _ _ _ _ _ _ _ _ op_sub (@pe_op _ _ _ _ _ _ _ _ op_add (@pv _ 5 _ _ (by rfl) (by first | exact Or.inl rfl | exact Or.inr ( Or.inl rfl ) | exact Or.inr ( Or.inr rfl )) (by decide) (by decide)) (@pe_callB _ _ _ _ _ _ _ _ _ call_len_seq rfl B.ilen PySem.boot_len (@pa_cons _ _ _ _ _ (@pe_cal _ _ _ _ _ _ _ _ _ _ _ C_list_numbers hr (by omega) rfl (@pa_cons _ _ _ _ _ (@pv _ 4 _ _ (by rfl) (by first | exact Or.inl rfl | exact Or.inr ( Or.inl rfl ) | exact Or.inr ( Or.inr rfl )) (by decide) (by decide)) pa_nil (by rfl)) (by decide) (by rfl) (by rfl)) pa_nil (by rfl)) (by decide) (by decide) (by rfl) (by rfl))) pe_int) (by rfl) (by first | exact .inl rfl | exact .inr rfl | assumption)) (@pss_cons _ _ _ _ _ (@ps_set _ _ (7) _ _ _ _ (sc_worths_by_stretch).nd rfl (Or.inl rfl) (@pe_cal _ _ _ _ _ _ _ _ _ _ _ C_worths_by_stretch hr (by omega) rfl (@pa_cons _ _ _ _ _ (@pv _ 3 _ _ (by rfl) (by first | exact Or.inl rfl | exact Or.inr ( Or.inl rfl ) | exact Or.inr ( Or.inr rfl )) (by decide) (by decide)) (@pa_cons _ _ _ _ _ (@pv _ 1 _ _ (by rfl) (by first | exact Or.inl rfl | exact Or.inr ( Or.inl rfl ) | exact Or.inr ( Or.inr rfl )) (by decide) (by decide)) pa_nil (by rfl)) (by rfl)) (by decide) (by rfl) (by rfl)) (by rfl) (by first | exact .inl rfl | exact .inr rfl | assumption)) (@pss_cons _ _ _ _ _ (@ps_expr _ _ _ _ (@pe_bm _ _ _ _ _ _ _ _ _ _ _ _ PySem.F.plainAttrs_dict PySem.F.slot_dict_update PySem.F.type_dict_update (@mt_dupd _ (u1 hr.units)) (@pv _ 7 _ _ (by rfl) (by first | exact Or.inl rfl | exact Or.inr ( Or.inl rfl ) | exact Or.inr ( Or.inr rfl )) (by decide) (by decide)) (@pa_cons _ _ _ _ _ (@pe_cal _ _ _ _ _ _ _ _ _ _ _ C_worths_by_stretch hr (by omega) rfl (@pa_cons _ _ _ _ _ (@pv _ 4 _ _ (by rfl) (by first | exact Or.inl rfl | exact Or.inr ( Or.inl rfl ) | exact Or.inr ( Or.inr rfl )) (by decide) (by decide)) (@pa_cons _ _ _ _ _ (@pv _ 5 _ _ (by rfl) (by first | exact Or.inl rfl | exact Or.inr ( Or.inl rfl ) | exact Or.inr ( Or.inr rfl )) (by decide) (by decide)) pa_nil (by rfl)) (by rfl)) (by decide) (by rfl) (by rfl)) pa_nil (by rfl)) (by rfl) (by rfl) (by rfl) (by rfl) (by rfl)) (by rfl)) (@pss_cons _ _ _ _ _ (@ps_dput _ _ _ _ _ _ _ _ _ (u1 hr.units) (@pv _ 7 _ _ (by rfl) (by first | exact Or.inl rfl | exact Or.inr ( Or.inl rfl ) | exact Or.inr ( Or.inr rfl )) (by decide) (by decide)) (@pe_tup _ _ _ _ _ (@pa_cons _ _ _ _ _ (@pv _ 1 _ _ (by rfl) (by first | exact Or.inl rfl | exact Or.inr ( Or.inl rfl ) | exact Or.inr ( Or.inr rfl )) (by decide) (by decide)) (@pa_cons _ _ _ _ _ (@pv _ 6 _ _ (by rfl) (by first | exact Or.inl rfl | exact Or.inr ( Or.inl rfl ) | exact Or.inr ( Or.inr rfl )) (by decide) (by decide)) pa_nil (by rfl)) (by rfl))) (@pe_cal _ _ _ _ _ _ _ _ _ _ _ C_put_sign hr (by omega) rfl (@pa_cons _ _ _ _ _ (@pe_dget _ _ _ _ _ _ (u1 hr.units) (@pv _ 7 _ _ (by rfl) (by first | exact Or.inl rfl | exact Or.inr ( Or.inl rfl ) | exact Or.inr ( Or.inr rfl )) (by decide) (by decide)) (@pe_tup _ _ _ _ _ (@pa_cons _ _ _ _ _ (@pv _ 1 _ _ (by rfl) (by first | exact Or.inl rfl | exact Or.inr ( Or.inl rfl ) | exact Or.inr ( Or.inr rfl )) (by decide) (by decide)) (@pa_cons _ _ _ _ _ (@pe_op _ _ _ _ _ _ _ _ op_sub (@pv _ 5 _ _ (by rfl) (by first | exact Or.inl rfl | exact Or.inr ( Or.inl rfl ) | exact Or.inr ( Or.inr rfl )) (by decide) (by decide)) pe_int) pa_nil (by rfl)) (by rfl))) (fun _ _ => rfl)) (@pa_cons _ _ _ _ _ (@pv _ 2 _ _ (by rfl) (by first | exact Or.inl rfl | exact Or.inr ( Or.inl rfl ) | exact Or.inr ( Or.inr rfl )) (by decide) (by decide)) (@pa_cons _ _ _ _ _ (@pe_dget _ _ _ _ _ _ (u1 hr.units) (@pv _ 7 _ _ (by rfl) (by first | exact Or.inl rfl | exact Or.inr ( Or.inl rfl ) | exact Or.inr ( Or.inr rfl )) (by decide) (by decide)) (@pe_tup _ _ _ _ _ (@pa_cons _ _ _ _ _ (@pv _ 5 _ _ (by rfl) (by first | exact Or.inl rfl | exact Or.inr ( Or.inl rfl ) | exact Or.inr ( Or.inr rfl )) (by decide) (by decide)) (@pa_cons _ _ _ _ _ (@pv _ 6 _ _ (by rfl) (by first | exact Or.inl rfl | exact Or.inr ( Or.inl rfl ) | exact Or.inr ( Or.inr rfl )) (by decide) (by decide)) pa_nil (by rfl)) (by rfl))) (fun _ _ => rfl)) pa_nil (by rfl)) (by rfl)) (by rfl)) (by decide) (by rfl) (by rfl)) rfl) (@pss_one _ _ _ (@ps_ret _ _ _ _ (@pv _ 7 _ _ (by rfl) (by first | exact Or.inl rfl | exact Or.inr ( Or.inl rfl ) | exact Or.inr ( Or.inr rfl )) (by decide) (by decide))))))))))), ?_⟩
    cases wy with
    | num i =>
      cases hw
      refine ⟨_, rfl, _, "int", rfl, .int i, true, rfl, iteT (fun p hp => ?_)⟩
      refine ⟨_, rfl, _, rfl, (by show 2 ≤ sizeLine; decide), fun b nb => ⟨_, rfl, ?_⟩⟩
      have g1 := Same.new hp (.dT [])
      have g2 := Same.new nb (.tup [.int fi, .int fi])
      refine ⟨g2 _ _ upd_same, [(b, k2 fi fi, .int i)], rfl, fun c hc => ?_, by simp, ?_⟩
      · have e : c = (b, k2 fi fi, .int i) := by simpa using hc
        subst e; exact upd_same
      · exact q p _ ((g1.trans g2).upd hp) hp upd_same
    | node g l r =>
      obtain ⟨a, vl, vr, rfl, ha, hl, hr'⟩ := hw
      refine ⟨_, rfl, _, "tuple", rfl, .tup ha, false, rfl, iteF ?_⟩
      have d : max l.deep r.deep + 1 ≤ n + 1 := hd
      have z : l.size + r.size ≤ 20 := h20
      have zl := l.size_pos; have zr := r.size_pos
      have dl := l.deep_le; have dr := r.deep_le
      refine ⟨_, rfl, a, _, rfl, SqT.of ha, rfl, _, _, rfl, _, _, rfl, _, _, rfl, rfl, ?_⟩
      refine ⟨_, rfl, _, rfl, l, vl, rfl, hl, by omega, by omega, fun p1 H1 g1 n1 e1 => ⟨p1, _, rfl, .inl (SqL.of e1), _, _, rfl, rfl, ?_⟩⟩
      refine ⟨_, rfl, _, rfl, r, vr, rfl, hr'.mono (Tups.of g1), by omega, by omega, fun p2 H2 g2 n2 e2 => ⟨p2, _, rfl, .inl (SqL.of e2), _, _, rfl, rfl, _, _, rfl, rfl, ?_⟩⟩
      rw [List.length_map, List.length_map, l.nums_len, r.nums_len]
      have G2 := g1.trans g2
      refine ⟨_, rfl, _, rfl, l, vl, fi, rfl, hl.mono (Tups.of G2), by omega, by omega, hB.l, fun p3 H3 g3 n3 e3 => ?_⟩
      have G3 := G2.trans g3
      refine ⟨_, rfl, .inr (.inr (.inl ⟨rfl, .inr ⟨_, e3⟩⟩)), _, rfl, _, rfl, r, vr, fi + l.size, rfl, hr'.mono (Tups.of G3), by omega, by omega, hB.r, fun p4 H4 g4 n4 e4 => ?_⟩
      have G4 := G3.trans g4
      have e34 := g4 _ _ e3
      have n34 : p3 ≠ p4 := ne_of_none e3 n4
      have ll := l.pwl_len fi; have rl := r.pwl_len (fi + l.size)
      have np3 : H p3 = none := G2.free n3
      refine ⟨p3, p4, _, _, rfl, rfl, e34, e4, n34, fun e => ?_, le_line (by omega), ?_⟩
      · rw [e] at ll; simp at ll; omega
      rw [merge_app _ _ (Wy.pwl_lr l r fi (l.pwl_nodup _) (r.pwl_nodup _))]
      have G5 : Same H (upd H4 p3 (.dT (l.pwl fi ++ r.pwl (fi + l.size)))) := G4.upd np3
      have e5 := upd_same (H := H4) (a := p3) (o := .dT (l.pwl fi ++ r.pwl (fi + l.size)))
      revert G5 e5
      generalize upd H4 p3 (.dT (l.pwl fi ++ r.pwl (fi + l.size))) = H5
      intro G5 e5
      have nd := Wy.pwl_lr l r fi (l.pwl_nodup _) (r.pwl_nodup _)
      have vl' : valV (l.pwl fi ++ r.pwl (fi + l.size)) (k2 fi (fi + l.size - 1)) = some (.int l.worth) := val_mem nd (List.mem_append_left _ (l.pwl_mem fi))
      have vr' : valV (l.pwl fi ++ r.pwl (fi + l.size)) (k2 (fi + l.size) (fi + l.size + r.size - 1)) = some (.int r.worth) := val_mem nd (List.mem_append_right _ (r.pwl_mem _))
      refine ⟨_, rfl, _, rfl, _, rfl, _, _, rfl, rfl, (by show 2 ≤ sizeLine; decide), fun b1 nb1 => ?_⟩
      have g6 := Same.new nb1 (.tup [.int fi, .int (fi + (l.size : Int) - 1)])
      refine ⟨p3, .int l.worth, rfl, by rw [← vl']; exact DGet.t (g6 _ _ e5) (k := k2 fi (fi + l.size - 1)) upd_same, ?_⟩
      refine ⟨_, rfl, _, rfl, _, rfl, _, rfl, (by show 2 ≤ sizeLine; decide), fun b2 nb2 => ?_⟩
      have g7 := Same.new nb2 (.tup [.int (fi + (l.size : Int)), .int (fi + (l.size : Int) + (r.size : Int) - 1)])
      refine ⟨p3, .int r.worth, rfl, by rw [← vr']; exact DGet.t (g7 _ _ (g6 _ _ e5)) (k := k2 (fi + l.size) (fi + l.size + r.size - 1)) upd_same, ?_⟩
      refine ⟨_, g, _, rfl, big (l.worth_bd hB.l) (by omega), big (r.worth_bd hB.r) (by omega), ?_⟩
      refine ⟨_, rfl, _, rfl, _, rfl, (by show 2 ≤ sizeLine; decide), fun b3 nb3 => ?_⟩
      have g8 := Same.new nb3 (.tup [.int fi, .int (fi + (l.size : Int) + (r.size : Int) - 1)])
      have sz5 : (l.pwl fi ++ r.pwl (fi + l.size)).length < sizeLine := by
        rw [List.length_append]
        have : (1000 : Nat) ≤ sizeLine := by decide
        omega
      refine ⟨p3, _, rfl, DPut.t (k := k2 fi (fi + l.size + r.size - 1)) (g8 _ _ (g7 _ _ (g6 _ _ e5))) upd_same sz5, ?_⟩
      rw [putK_new (Wy.pwl_top g l r fi)]
      exact ⟨_, rfl, q p3 _ ((((G5.trans g6).trans g7).trans g8).upd np3) np3 upd_same⟩
def spPartWorths : Sp := fun vs H Q _ => ∃ w v, vs = [v] ∧ WyIn H w v ∧ w.size ≤ 9 ∧ w.Bd ∧ ∀ p H', Same H H' → H p = none → H' p = some (.dT (w.pwl 0)) → Q (.ref p) H'
abbrev s_part_worths : Stmt := top 19
theorem sc_part_worths : FnScope ["way"] ["way"] (defScope s_part_worths) := ⟨rfl, rfl, rfl, by decide +kernel, rfl, by decide +kernel, by decide +kernel⟩
theorem ok_part_worths (F : Fun K "part_worths" "part_worths" s_part_worths f fd) (C_need_way : Cal P w K mg base "need_way" 3 ["thing"] spNeedWay) (C_worths_by_stretch : Cal P w K mg base "worths_by_stretch" 42 ["way", "first"] (spWbs 20)) : FnOk P w K mg base CX0 43 f fd ["way"] spPartWorths := by
  refine F.ok sc_part_worths (fun vs H Q E h => ?_) (fun cdv A outer s H vs Q E hr h => ?_)
  · obtain ⟨x, v, rfl, _⟩ := h
    rfl
  obtain ⟨wy, v, rfl, hw, h9, hB, q⟩ := h
  refine ⟨_, (@pss_cons _ _ _ _ _ (@ps_expr _ _ _ _ (@pe_cal _ _ _ _ _ _ _ _ _ _ _ C_need_way hr (by omega) rfl (@pa_cons _ _ _ _ _ (@pv _ 0 _ _ (by rfl) (by first | exact Or.inl rfl | exact Or.inr ( Or.inl rfl ) | exact Or.inr ( Or.inr rfl )) (by decide) (by decide)) pa_nil (by rfl)) (by decide) (by rfl) (by rfl)) (by rfl)) (@pss_one _ _ _ (@ps_ret _ _ _ _ (@pe_cal _ _ _ _ _ _ _ _ _ _ _ C_worths_by_stretch hr (by omega) rfl (@pa_cons _ _ _ _ _ (@pv _ 0 _ _ (by rfl) (by first | exact Or.inl rfl | exact Or.inr ( Or.inl rfl ) | exact Or.inr ( Or.inr rfl )) (by decide) (by decide)) (@pa_cons _ _ _ _ _ pe_int pa_nil (by rfl)) (by rfl)) (by decide) (by rfl) (by rfl))))), ?_⟩
  refine ⟨_, rfl, wy, v, rfl, hw, h9, fun H1 g1 => ?_⟩
  have dl := wy.deep_le
  exact ⟨_, rfl, wy, v, 0, rfl, hw.mono (Tups.of g1), by omega, by omega, hB, fun p H2 g2 n2 e2 => q p H2 (g1.trans g2) (g1.free n2) e2⟩
end
end Put

set_option Elab.async false
set_option linter.all false
set_option maxRecDepth 100000
set_option maxHeartbeats 2000000
namespace Put
open PySem L2
theorem cut_some (ns : List Int) (lo hi : Option Int) : ∃ ms : List Int, cutV (ns.map V.int) lo hi = ms.map V.int ∧ ms.length ≤ ns.length := by
  refine ⟨(ns.drop (HT.sIx ns.length 0 lo)).take (HT.sIx ns.length ns.length hi - HT.sIx ns.length 0 lo), ?_, ?_⟩
  · unfold cutV
    rw [List.length_map, List.map_take, List.map_drop]
  · rw [List.length_take, List.length_drop]; omega
theorem But.same {H H1 H2 : Hp} {wl : Addr} (s : Same H H1) (n : H wl = none) (b : But wl H1 H2) : Same H H2 := fun c o h => b c o (ne_of_none h n) (s c o h)
theorem numsBd {ns : List Int} {w : Wy} (h : Small ns) (e : w.nums = ns) : w.Bd := fun i hi => by
  rw [e] at hi
  have := h i hi
  have z : (1000000000000 : Nat) < 2 ^ 131 := by decide
  omega
theorem lc_keys {d : Addr} {o : Obj} {kvs : List (List Key × V)} {cap : List (Option Nat)} {g : TG} {tt : TT} {te : TE} {σ : St} {H : Hp} {Q : VK} (Pv : Nat → List V → Hp → Prop) (h0 : Pv 0 [] H) (hl : ∀ i ys H, i ≤ kvs.length → Pv i ys H → H d = some (.frz o (.dT kvs)) ∧ ys.length < sizeLine)
    (hs : ∀ i kv b ys H, kvs[i]? = some kv → H b = some (.tup (kv.1.map kV)) → Pv i ys H → (∀ {P : Prop}, P → Nxt kvs.length i P) → g (.ref b) (capSt cap σ) H fun σ2 H2 => tt σ2 H2 fun t H3 => if t = true then te σ2 H3 fun v H4 => Nxt kvs.length i (Pv (i + 1) (ys ++ [v]) H4) else Nxt kvs.length i (Pv (i + 1) ys H3))
    (hd : ∀ ys H, Pv kvs.length ys H → ∀ p, H p = none → Q (.ref p) (upd H p (.lst ys))) : LcIn cap g tt te σ Q (Itk d o kvs) H := by
  refine ⟨fun i m ys H => m = kvs.length - i ∧ i ≤ kvs.length ∧ Pv i ys H, ⟨kvs.length, by simp, Nat.zero_le _, h0⟩, ?_⟩
  rintro i m ys H ⟨rfl, hi, p⟩
  have q := hl i ys H hi p
  by_cases hlt : i < kvs.length
  · refine .inr ⟨⟨q.1, hlt⟩, q.2, fun x H' y => ?_⟩
    obtain ⟨b, e1, e2, y⟩ := y
    subst e1 e2
    have hx : kvs[i]? = some kvs[i] := List.getElem?_eq_getElem hlt
    exact hs i _ b ys _ hx (y _ hx) p fun h => ⟨_, by omega, rfl, hlt, h⟩
  · have e : i = kvs.length := by omega
    subst e
    exact .inl ⟨⟨q.1, Nat.le_refl _⟩, hd ys H p⟩
theorem pairDat {H : Hp} {a : Addr} {i j : Int} (h : H a = some (.tup [.int i, .int j])) : Dat H (.tuple [.int i, .int j]) (.ref a) := by
  simp only [Dat, DatAll]
  exact ⟨a, _, rfl, h, _, _, rfl, rfl, _, _, rfl, rfl, rfl⟩
theorem pairEq2 (i j : Int) : PyData.eqv (.tuple [.int i, .int j]) (.tuple [.int i, .int j]) = true := by simp [PyData.eqv, PyData.eqvAll]
theorem pairDepth (i j : Int) : (PyData.tuple [.int i, .int j]).depth ≤ 60 := by simp [PyData.depth, PyData.depthAll]
theorem iteNN {c A B : Prop} [Decidable c] (hc : ¬ c) (h : A) : if (!decide c) = true then A else B := by
  rw [decide_eq_false hc]; exact h
/-! ### the parts of a way -/
def Wy.parts : Wy → Int → List ((Int × Int) × Wy)
  | .num n, f => [((f, f), .num n)]
  | .node g l r, f => l.parts f ++ r.parts (f + l.size) ++ [((f, f + l.size + r.size - 1), .node g l r)]
theorem Wy.parts_pwl : ∀ (w : Wy) (f : Int), w.pwl f = (w.parts f).map fun p => (k2 p.1.1 p.1.2, V.int p.2.worth)
  | .num n, f => rfl
  | .node g l r, f => by
    show l.pwl f ++ r.pwl (f + l.size) ++ [(k2 f (f + l.size + r.size - 1), V.int (g.op l.worth r.worth))] = (l.parts f ++ r.parts (f + l.size) ++ [((f, f + l.size + r.size - 1), Wy.node g l r)]).map _
    rw [List.map_append, List.map_append, l.parts_pwl, r.parts_pwl]
    rfl
theorem Wy.parts_in : ∀ (w : Wy) (f : Int) (p : (Int × Int) × Wy), p ∈ w.parts f → f ≤ p.1.1 ∧ p.1.1 ≤ p.1.2 ∧ p.1.2 < f + w.size ∧ (p.2.size : Int) = p.1.2 - p.1.1 + 1 ∧ (w.Bd → p.2.Bd)
  | .num n, f, p, h => by
    have e : p = ((f, f), .num n) := by simpa [Wy.parts] using h
    subst e
    exact ⟨Int.le_refl _, Int.le_refl _, by show f < f + ((1 : Nat) : Int); omega, by show ((1 : Nat) : Int) = f - f + 1; omega, fun h => h⟩
  | .node g l r, f, p, h => by
    have zl := l.size_pos; have zr := r.size_pos
    have e : (((Wy.node g l r).size : Nat) : Int) = l.size + r.size := by show ((l.size + r.size : Nat) : Int) = _; omega
    rw [e]
    have h' : p ∈ l.parts f ++ r.parts (f + l.size) ++ [((f, f + l.size + r.size - 1), Wy.node g l r)] := h
    rcases List.mem_append.mp h' with h1 | h1
    · rcases List.mem_append.mp h1 with h2 | h2
      · obtain ⟨a, b, c, d, k⟩ := l.parts_in f p h2
        exact ⟨by omega, by omega, by omega, d, fun z => k z.l⟩
      · obtain ⟨a, b, c, d, k⟩ := r.parts_in _ p h2
        exact ⟨by omega, by omega, by omega, d, fun z => k z.r⟩
    · have q : p = ((f, f + l.size + r.size - 1), Wy.node g l r) := by simpa using h1
      subst q
      exact ⟨Int.le_refl _, by show f ≤ f + l.size + r.size - 1; omega, by show f + l.size + r.size - 1 < _; omega, by rw [e]; show _ = f + l.size + r.size - 1 - f + 1; omega, fun h => h⟩
theorem Wy.parts_full : ∀ (w : Wy) (f : Int) (p : (Int × Int) × Wy), p ∈ w.parts f → (w.size : Int) = p.1.2 - p.1.1 + 1 → p.2 = w
  | .num n, f, p, h, _ => by
    have e : p = ((f, f), .num n) := by simpa [Wy.parts] using h
    subst e; rfl
  | .node g l r, f, p, h, hs => by
    have zl := l.size_pos; have zr := r.size_pos
    have e : (((Wy.node g l r).size : Nat) : Int) = l.size + r.size := by show ((l.size + r.size : Nat) : Int) = _; omega
    rw [e] at hs
    have h' : p ∈ l.parts f ++ r.parts (f + l.size) ++ [((f, f + l.size + r.size - 1), Wy.node g l r)] := h
    rcases List.mem_append.mp h' with h1 | h1
    · rcases List.mem_append.mp h1 with h2 | h2
      · have := l.parts_in f p h2; omega
      · have := r.parts_in _ p h2; omega
    · have q : p = ((f, f + l.size + r.size - 1), Wy.node g l r) := by simpa using h1
      subst q; rfl
section
variable {P : Program} {w : World} {K : PySem.W.Frag} {mg : Str → Option Value} {base : Heap} {f : Addr} {fd : FuncData}
def spPart : Sp := fun vs H Q _ => ∃ (w : Wy) (v : V) (b : Addr) (p : (Int × Int) × Wy), vs = [v, .ref b] ∧ WyIn H w v ∧ w.size ≤ 9 ∧ H b = some (.tup [.int p.1.1, .int p.1.2]) ∧ p ∈ w.parts 0 ∧ ∀ u H', Same H H' → WyIn H' p.2 u → Q u H'
def PtInv (H : Hp) (b : Addr) (p : (Int × Int) × Wy) (m : Nat) (σ : St) (H' : Hp) : Prop := ∃ (cur : Wy) (vc : V) (bg : Int) (many : Option V), σ = [some vc, some (.ref b), some (.int bg), many] ∧ Same H H' ∧ WyIn H' cur vc ∧ cur.size ≤ 9 ∧ p ∈ cur.parts bg ∧ m = cur.size
abbrev s__law_part : Stmt := top 36
theorem sc__law_part : FnScope ["way", "stretch", "begin", "many"] ["way", "stretch"] (defScope s__law_part) := ⟨rfl, rfl, rfl, by decide +kernel, rfl, by decide +kernel, by decide +kernel⟩
theorem ok_part (F : Fun K "_law_part" "_law_part" s__law_part f fd) (B : Bu K mg) (C_numbers_of : Cal P w K mg base "numbers_of" 22 ["way"] spNumbersOf) : FnOk P w K mg base CX0 23 f fd ["way", "stretch"] spPart := by
  refine F.ok sc__law_part (fun vs H Q E h => ?_) (fun cdv A outer s H vs Q E hr h => ?_)
  · obtain ⟨x, v, b, p, rfl, _⟩ := h
    rfl
  obtain ⟨wy, v, b, p, rfl, hw, h9, hb, hp, q⟩ := h
  refine ⟨_, (@pss_cons _ _ _ _ _ (@ps_set _ _ (2) _ _ _ _ (sc__law_part).nd rfl (Or.inl rfl) pe_int (by rfl) (by first | exact .inl rfl | exact .inr rfl | assumption)) (@pss_cons _ _ _ _ _ (@ps_while _ _ _ _ _ _ PassesOwn.never (@pt_cmpR _ _ _ _ _ _ _ _ op_ne (@pe_callB _ _ _ _ _ _ _ _ _ call_len_seq rfl B.ilen PySem.boot_len (@pa_cons _ _ _ _ _ (@pe_cal _ _ _ _ _ _ _ _ _ _ _ C_numbers_of hr (by omega) rfl (@pa_cons _ _ _ _ _ (@pv _ 0 _ _ (by rfl) (by first | exact Or.inl rfl | exact Or.inr ( Or.inl rfl ) | exact Or.inr ( Or.inr rfl )) (by decide) (by decide)) pa_nil (by rfl)) (by decide) (by rfl) (by rfl)) pa_nil (by rfl)) (by decide) (by decide) (by rfl) (by rfl)) (@pe_op _ _ _ _ _ _ _ _ op_add (@pe_op _ _ _ _ _ _ _ _ op_sub (@pe_ix _ _ _ _ _ _ _ ix_tup (@pv _ 1 _ _ (by rfl) (by first | exact Or.inl rfl | exact Or.inr ( Or.inl rfl ) | exact Or.inr ( Or.inr rfl )) (by decide) (by decide)) pe_int (fun _ _ => rfl)) (@pe_ix _ _ _ _ _ _ _ ix_tup (@pv _ 1 _ _ (by rfl) (by first | exact Or.inl rfl | exact Or.inr ( Or.inl rfl ) | exact Or.inr ( Or.inr rfl )) (by decide) (by decide)) pe_int (fun _ _ => rfl))) pe_int) (nomark _)) (@pss_cons _ _ _ _ _ (@ps_set _ _ (3) _ _ _ _ (sc__law_part).nd rfl (Or.inl rfl) (@pe_callB _ _ _ _ _ _ _ _ _ call_len_seq rfl B.ilen PySem.boot_len (@pa_cons _ _ _ _ _ (@pe_cal _ _ _ _ _ _ _ _ _ _ _ C_numbers_of hr (by omega) rfl (@pa_cons _ _ _ _ _ (@pe_ix _ _ _ _ _ _ _ ix_tup (@pv _ 0 _ _ (by rfl) (by first | exact Or.inl rfl | exact Or.inr ( Or.inl rfl ) | exact Or.inr ( Or.inr rfl )) (by decide) (by decide)) pe_int (fun _ _ => rfl)) pa_nil (by rfl)) (by decide) (by rfl) (by rfl)) pa_nil (by rfl)) (by decide) (by decide) (by rfl) (by rfl)) (by rfl) (by first | exact .inl rfl | exact .inr rfl | assumption)) (@pss_one _ _ _ (@ps_if _ _ _ _ _ _ _ _ (@pt_cmpR _ _ _ _ _ _ _ _ op_ge (@pe_ix _ _ _ _ _ _ _ ix_tup (@pv _ 1 _ _ (by rfl) (by first | exact Or.inl rfl | exact Or.inr ( Or.inl rfl ) | exact Or.inr ( Or.inr rfl )) (by decide) (by decide)) pe_int (fun _ _ => rfl)) (@pe_op _ _ _ _ _ _ _ _ op_add (@pv _ 2 _ _ (by rfl) (by first | exact Or.inl rfl | exact Or.inr ( Or.inl rfl ) | exact Or.inr ( Or.inr rfl )) (by decide) (by decide)) (@pv _ 3 _ _ (by rfl) (by first | exact Or.inl rfl | exact Or.inr ( Or.inl rfl ) | exact Or.inr ( Or.inr rfl )) (by decide) (by decide))) (nomark _)) (@pss_cons _ _ _ _ _ (@ps_set _ _ (2) _ _ _ _ (sc__law_part).nd rfl (Or.inl rfl) (@pe_op _ _ _ _ _ _ _ _ op_add (@pv _ 2 _ _ (by rfl) (by first | exact Or.inl rfl | exact Or.inr ( Or.inl rfl ) | exact Or.inr ( Or.inr rfl )) (by decide) (by decide)) (@pv _ 3 _ _ (by rfl) (by first | exact Or.inl rfl | exact Or.inr ( Or.inl rfl ) | exact Or.inr ( Or.inr rfl )) (by decide) (by decide))) (by rfl) (by first | exact .inl rfl | exact .inr rfl | assumption)) (@pss_one _ _ _ (@ps_set _ _ (0) _ _ _ _ (sc__law_part).nd rfl (Or.inl rfl) (@pe_ix _ _ _ _ _ _ _ ix_tup (@pv _ 0 _ _ (by rfl) (by first | exact Or.inl rfl | exact Or.inr ( Or.inl rfl ) | exact Or.inr ( Or.inr rfl )) (by decide) (by decide)) pe_int (fun _ _ => rfl)) (by rfl) (by first | exact .inl rfl | exact .inr rfl | assumption)))) (@pss_one _ _ _ (@ps_set _ _ (0) _ _ _ _ (sc__law_part).nd rfl (Or.inl rfl) (@pe_ix _ _ _ _ _ _ _ ix_tup (@pv _ 0 _ _ (by rfl) (by first | exact Or.inl rfl | exact Or.inr ( Or.inl rfl ) | exact Or.inr ( Or.inr rfl )) (by decide) (by decide)) pe_int (fun _ _ => rfl)) (by rfl) (by first | exact .inl rfl | exact .inr rfl | assumption))))))) (@pss_one _ _ _ (@ps_ret _ _ _ _ (@pv _ 0 _ _ (by rfl) (by first | exact Or.inl rfl | exact Or.inr ( Or.inl rfl ) | exact Or.inr ( Or.inr rfl )) (by decide) (by decide)))))), ?_⟩
  refine ⟨PtInv H b p, ⟨_, wy, v, 0, _, rfl, Same.refl _, hw, h9, hp, rfl⟩, ?_⟩
  rintro m σ H' ⟨cur, vc, bg, many, rfl, S, hc, c9, hp, rfl⟩
  refine ⟨_, rfl, cur, vc, rfl, hc, c9, fun p1 H1 g1 n1 e1 => ⟨p1, _, rfl, .inl (SqL.of e1), ?_⟩⟩
  have G1 := S.trans g1
  have hb1 := G1 _ _ hb
  refine ⟨_, rfl, b, _, _, _, rfl, rfl, SqT.of hb1, rfl, _, rfl, b, _, _, _, rfl, rfl, SqT.of hb1, rfl, _, _, rfl, rfl, _, _, rfl, rfl, rfl, _, rfl, ?_⟩
  rw [List.length_map, cur.nums_len]
  have hc1 := hc.mono (Tups.of g1)
  by_cases hs : (cur.size : Int) = p.1.2 - p.1.1 + 1
  · refine iteNS (congrArg V.int hs) ⟨_, rfl, q _ _ G1 ?_⟩
    rw [cur.parts_full bg p hp hs]; exact hc1
  refine iteNN (fun e => hs (by injection e)) ⟨fun σ' H' => ∃ m', m' < cur.size ∧ PtInv H b p m' σ' H', fun _ _ h => h, ?_⟩
  cases cur with
  | num i =>
    have e : p = ((bg, bg), .num i) := by simpa [Wy.parts] using hp
    subst e
    exact absurd (by show ((1 : Nat) : Int) = bg - bg + 1; omega) hs
  | node g l r =>
    obtain ⟨a, vl, vr, rfl, ha, hl, hr'⟩ := hc1
    have zl := l.size_pos; have zr := r.size_pos
    have z : l.size + r.size ≤ 9 := c9
    have e : (((Wy.node g l r).size : Nat) : Int) = l.size + r.size := by show ((l.size + r.size : Nat) : Int) = _; omega
    have e' : (Wy.node g l r).size = l.size + r.size := rfl
    refine ⟨_, rfl, a, _, _, _, rfl, rfl, SqT.of ha, rfl, l, vl, rfl, hl, by omega, fun p2 H2 g2 n2 e2 => ⟨p2, _, rfl, .inl (SqL.of e2), ?_⟩⟩
    have G2 := G1.trans g2
    have hb2 := G2 _ _ hb
    have ha2 := g2 _ _ ha
    refine ⟨_, rfl, b, _, _, _, rfl, rfl, SqT.of hb2, rfl, _, rfl, _, rfl, _, _, rfl, rfl, _, _, rfl, rfl, ?_⟩
    rw [List.length_map, l.nums_len]
    have h' : p ∈ l.parts bg ++ r.parts (bg + l.size) ++ [((bg, bg + l.size + r.size - 1), Wy.node g l r)] := hp
    have nt : p ≠ ((bg, bg + l.size + r.size - 1), Wy.node g l r) := fun z => hs (by rw [e, z]; show _ = bg + l.size + r.size - 1 - bg + 1; omega)
    have h2 : p ∈ l.parts bg ∨ p ∈ r.parts (bg + l.size) := by
      rcases List.mem_append.mp h' with h1 | h1
      · exact List.mem_append.mp h1
      · exact absurd (by simpa using h1) nt
    rcases h2 with h2 | h2
    · have pi := l.parts_in _ p h2
      refine ⟨false, congrArg V.bl (decide_eq_false (by omega)), iteF ?_⟩
      refine ⟨_, rfl, a, _, _, _, rfl, rfl, SqT.of ha2, rfl, l.size, by omega, l, vl, bg, _, rfl, G2, hl.mono (Tups.of g2), by omega, h2, rfl⟩
    · have pi := r.parts_in _ p h2
      refine ⟨true, congrArg V.bl (decide_eq_true (by omega)), iteT ?_⟩
      refine ⟨_, rfl, _, rfl, _, _, rfl, rfl, _, rfl, a, _, _, _, rfl, rfl, SqT.of ha2, rfl, r.size, by omega, r, vr, bg + l.size, _, rfl, G2, hr'.mono (Tups.of g2), by omega, h2, rfl⟩
end
end Put

set_option Elab.async false
set_option linter.all false
set_option maxRecDepth 100000
set_option maxHeartbeats 2000000
namespace Put
open PySem L2
/-! ### the stretches of the parts -/
def dgs (n : Nat) (f : Int) : List (Int × Int) := (List.range n).map fun (k : Nat) => (f + (k : Int), f + (k : Int))
theorem dgs_add (m n : Nat) (f : Int) : dgs (m + n) f = dgs m f ++ dgs n (f + m) := by
  unfold dgs
  rw [List.range_add, List.map_append, List.map_map]
  congr 1
  refine List.map_congr_left fun k _ => ?_
  show (f + ((m + k : Nat) : Int), f + ((m + k : Nat) : Int)) = (f + m + k, f + m + k)
  have : f + ((m + k : Nat) : Int) = f + m + k := by omega
  rw [this]
theorem Wy.parts_perm : ∀ (w : Wy) (f : Int), ((w.parts f).map (·.1)).Perm (w.strs f ++ dgs w.size f)
  | .num n, f => by
    show [(f, f)].Perm ([] ++ [(f + ((0 : Nat) : Int), f + ((0 : Nat) : Int))])
    have : f + ((0 : Nat) : Int) = f := by omega
    rw [this]; exact List.Perm.refl _
  | .node g l r, f => by
    show ((l.parts f ++ r.parts (f + l.size) ++ [((f, f + l.size + r.size - 1), Wy.node g l r)]).map (·.1)).Perm (((f, f + l.size + r.size - 1) :: l.strs f ++ r.strs (f + l.size)) ++ dgs (l.size + r.size) f)
    rw [dgs_add, List.map_append, List.map_append]
    have a := l.parts_perm f
    have b := r.parts_perm (f + l.size)
    refine ((a.append b).append_right _).trans ?_
    rw [List.perm_iff_count]
    intro x
    simp only [List.count_append, List.count_cons, List.count_nil, List.map_cons, List.map_nil]
    omega
theorem nodup_of_map {α β : Type} {f : α → β} : ∀ {xs : List α}, (xs.map f).Nodup → xs.Nodup
  | [], _ => List.nodup_nil
  | x :: r, h => by
    rw [List.map_cons, List.nodup_cons] at h
    exact List.nodup_cons.mpr ⟨fun q => h.1 (List.mem_map.mpr ⟨x, q, rfl⟩), nodup_of_map h.2⟩
theorem Wy.parts_keys (w : Wy) (f : Int) : (w.pwl f).map (·.1) = ((w.parts f).map (·.1)).map fun p => [.inl p.1, .inl p.2] := by
  rw [w.parts_pwl, List.map_map, List.map_map]; rfl
theorem Wy.parts_fine (w : Wy) (h : w.size ≤ 9) : Fine ((w.parts 0).map (·.1)) := by
  refine ⟨fun p hp => ?_, ?_⟩
  · obtain ⟨q, hq, rfl⟩ := List.mem_map.mp hp
    have := w.parts_in 0 q hq
    omega
  · have := w.pwl_nodup 0
    rw [w.parts_keys] at this
    exact nodup_of_map this
theorem Wy.parts_len (w : Wy) (f : Int) : (w.parts f).length + 1 = 2 * w.size := by
  have := w.pwl_len f
  rw [w.parts_pwl, List.length_map] at this
  exact this
/-! ### another number at a place -/
theorem Wy.parts_put : ∀ (w : Wy) (f p n : Int) (q : (Int × Int) × Wy), q ∈ w.parts f → ¬ (q.1.1 ≤ f + p ∧ f + p ≤ q.1.2) → q ∈ (w.put p n).parts f
  | .num i, f, p, n, q, h, hn => by
    have e : q = ((f, f), .num i) := by simpa [Wy.parts] using h
    subst e
    have : p ≠ 0 := fun z => hn ⟨by show f ≤ f + p; omega, by show f + p ≤ f; omega⟩
    unfold Wy.put
    rw [if_neg this]; exact h
  | .node g l r, f, p, n, q, h, hn => by
    have h' : q ∈ l.parts f ++ r.parts (f + l.size) ++ [((f, f + l.size + r.size - 1), Wy.node g l r)] := h
    show q ∈ (l.put p n).parts f ++ (r.put (p - l.size) n).parts (f + (l.put p n).size) ++ [((f, f + (l.put p n).size + (r.put (p - l.size) n).size - 1), Wy.node g (l.put p n) (r.put (p - l.size) n))]
    rw [l.put_size, r.put_size]
    rcases List.mem_append.mp h' with h1 | h1
    · rcases List.mem_append.mp h1 with h2 | h2
      · exact List.mem_append_left _ (List.mem_append_left _ (l.parts_put f p n q h2 hn))
      · refine List.mem_append_left _ (List.mem_append_right _ (r.parts_put (f + l.size) (p - l.size) n q h2 ?_))
        have e : f + (l.size : Int) + (p - l.size) = f + p := by omega
        rw [e]; exact hn
    · have e : q = ((f, f + l.size + r.size - 1), Wy.node g l r) := by simpa using h1
      subst e
      have hn' : ¬ (f ≤ f + p ∧ f + p ≤ f + l.size + r.size - 1) := hn
      rw [l.put_out p n (by omega), r.put_out (p - l.size) n (by omega)]
      exact List.mem_append_right _ List.mem_cons_self
theorem Wy.put_set : ∀ (w : Wy) (p : Nat) (n : Int), p < w.size → (w.put (p : Int) n).nums = w.nums.set p n
  | .num i, p, n, h => by
    have : p = 0 := by have : p < 1 := h; omega
    subst this; rfl
  | .node g l r, p, n, h => by
    have h : p < l.size + r.size := h
    show (l.put p n).nums ++ (r.put ((p : Int) - l.size) n).nums = (l.nums ++ r.nums).set p n
    rw [List.set_append]
    have ll := l.nums_len
    by_cases c : p < l.size
    · rw [if_pos (by omega), l.put_set p n c, r.put_out _ n (by omega)]
    · rw [if_neg (by omega), l.put_out _ n (by omega)]
      have e : (p : Int) - l.size = ((p - l.size : Nat) : Int) := by omega
      rw [e, r.put_set (p - l.size) n (by omega), ll]
theorem Wy.put_self : ∀ (w : Wy) (p : Nat) (n : Int), w.nums[p]? = some n → w.put (p : Int) n = w
  | .num i, p, n, h => by
    match p, h with
    | 0, h => have e : i = n := by simpa [Wy.nums] using h
              subst e; rfl
    | p + 1, h => simp [Wy.nums] at h
  | .node g l r, p, n, h => by
    have h : (l.nums ++ r.nums)[p]? = some n := h
    have ll := l.nums_len
    have rl := r.nums_len
    show Wy.node g (l.put p n) (r.put ((p : Int) - l.size) n) = _
    by_cases c : p < l.size
    · rw [List.getElem?_append_left (by omega)] at h
      rw [l.put_self p n h, r.put_out _ n (by omega)]
    · rw [List.getElem?_append_right (by omega), ll] at h
      have e : (p : Int) - l.size = ((p - l.size : Nat) : Int) := by omega
      rw [l.put_out _ n (by omega), e, r.put_self _ n h]
/-! ### the heap while a dict is frozen -/
theorem thaw {H H' : Hp} {d : Addr} {o : Obj} {kvs : List (List Key × V)} (e : H d = some (.dT kvs)) (S : Same (upd H d (.frz o (.dT kvs))) H') : Same H (upd H' d (.dT kvs)) := fun c u h => by
  by_cases q : c = d
  · subst q; rw [upd_same, ← e]; exact h
  · rw [upd_ne q]; exact S c u (by rw [upd_ne q]; exact h)
theorem frz_tups {H : Hp} {d : Addr} {o : HO} {kvs : List (List Key × V)} (e : H d = some (.dT kvs)) : Tups H (upd H d o) := fun b ys z => by rw [upd_ne (fun q => by rw [q, e] at z; cases z)]; exact z
theorem DGet.f {H : Hp} {a b : Addr} {o : Obj} {kvs : List (List Key × V)} {k : List Key} (e : H a = some (.frz o (.dT kvs))) (eb : H b = some (.tup (k.map kV))) : DGet H a (.ref b) (valV kvs k) := .inr ⟨kvs, k, b, .inr ⟨o, e⟩, rfl, eb, rfl⟩
theorem same_all {K : PySem.W.Frag} {H : Hp} {neg : Bool} {a b : Addr} {xs : List V} {Q : VK} (ha : SqL K H a xs) (hb : SqL K H b xs) (fl : ∀ x ∈ xs, flatV x = true) (q : Q (.bl (!neg)) H) : rEqL K neg (.ref a) (.ref b) H Q := by
  refine ⟨0, a, b, xs, xs, by decide, rfl, rfl, ha, hb, .inr ⟨fun _ => true, rfl, fun j x y hx hy => ?_, ?_⟩⟩
  · rw [hx] at hy; cases hy
    exact EqR.flat_same (fl x (List.mem_of_getElem? hx))
  · have e : (List.range xs.length).all (fun _ => true) = true := by simp
    cases neg <;> (simp only [e]; exact q)
theorem same_prs {K : PySem.W.Frag} {H : Hp} {neg : Bool} {a b : Addr} {ps : List (Int × Int)} {xs ys : List V} {Q : VK} (ha : SqL K H a xs) (hb : SqL K H b ys) (h1 : PairsIn H ps xs) (h2 : PairsIn H ps ys) (q : Q (.bl (!neg)) H) : rEqL K neg (.ref a) (.ref b) H Q := by
  refine ⟨1, a, b, xs, ys, by decide, rfl, rfl, ha, hb, .inr ⟨fun _ => true, (Paired.length h1).symm.trans (Paired.length h2), fun j x y hx hy => ?_, ?_⟩⟩
  · have l1 := Paired.length h1
    have hj : j < ps.length := by rw [l1]; exact (List.getElem?_eq_some_iff.mp hx).1
    have a1 := pairs_getD (i := j) h1 (by omega)
    have a2 := pairs_getD (i := j) h2 (by have := (List.getElem?_eq_some_iff.mp hy).1; omega)
    have ex : xs.getD j .non = x := by rw [List.getD_eq_getElem?_getD, hx]; rfl
    have ey : ys.getD j .non = y := by rw [List.getD_eq_getElem?_getD, hy]; rfl
    rw [ex] at a1; rw [ey] at a2
    exact EqR.pair_same a1 a2
  · have e : (List.range xs.length).all (fun _ => true) = true := by simp
    cases neg <;> (simp only [e]; exact q)
theorem ints_flat {ns : List Int} : ∀ x ∈ ns.map V.int, flatV x = true := fun x hx => by
  obtain ⟨i, _, rfl⟩ := List.mem_map.mp hx
  rfl
end Put

set_option Elab.async false
set_option linter.all false
set_option maxRecDepth 100000
set_option maxHeartbeats 2000000
namespace Put
open PySem L2
section
variable {P : Program} {w : World} {K : PySem.W.Frag} {mg : Str → Option Value} {base : Heap} {f : Addr} {fd : FuncData}
def spPartsRight : Sp := fun vs H Q _ => ∃ (wl : Addr) (w : Wy) (v : V) (d : Addr) (M : Int), vs = [.ref wl, v, .ref d] ∧ WyIn H w v ∧ w.size ≤ 9 ∧ w.Bd ∧ H d = some (.dT (w.pwl 0)) ∧ Wel H wl M ∧ M < 999990000 ∧ ∀ H', But wl H H' → Wel H' wl (M + 10) → Q (.bl true) H'
abbrev s__law_parts_right : Stmt := top 37
theorem sc__law_parts_right : FnScope ["well", "way", "worths", "row", "stretch", "place", "number", "times", "plus", "other", "others"] ["well", "way", "worths"] (defScope s__law_parts_right) := ⟨rfl, rfl, rfl, by decide +kernel, rfl, by decide +kernel, by decide +kernel⟩
theorem ok_parts_right (F : Fun K "_law_parts_right" "_law_parts_right" s__law_parts_right f fd) (B : Bu K mg) (C_numbers_of : Cal P w K mg base "numbers_of" 22 ["way"] spNumbersOf) (C_stretches_of : Cal P w K mg base "stretches_of" 43 ["way"] spStretchesOf) (C_worth_of : Cal P w K mg base "worth_of" 22 ["way"] spWorthOf) (C__law_part : Cal P w K mg base "_law_part" 23 ["way", "stretch"] spPart)
    (C__law_draw : Cal P w K mg base "_law_draw" 2 ["well", "many"] spDraw) (C__law_number : Cal P w K mg base "_law_number" 3 ["well"] spNumber) (C_hangs_by : Cal P w K mg base "hangs_by" 43 ["way", "place"] spHangs) (C_with_number : Cal P w K mg base "with_number" 43 ["way", "place", "number"] spWithNumber)
    (C_part_worths : Cal P w K mg base "part_worths" 43 ["way"] spPartWorths) : FnOk P w K mg base CX0 44 f fd ["well", "way", "worths"] spPartsRight := by
  refine F.ok sc__law_parts_right (fun vs H Q E h => ?_) (fun cdv A outer s H vs Q E hr h => ?_)
  · obtain ⟨wl, wy, v, d, M, rfl, _⟩ := h
    rfl
  obtain ⟨wl, wy, v, d, M, rfl, hw, h9, hB, hd, hwl, hM, q⟩ := h
  refine ⟨_, (@pss_cons _ _ _ _ _ (@ps_set _ _ (3) _ _ _ _ (sc__law_parts_right).nd rfl (Or.inl rfl) (@pe_cal _ _ _ _ _ _ _ _ _ _ _ C_numbers_of hr (by omega) rfl (@pa_cons _ _ _ _ _ (@pv _ 1 _ _ (by rfl) (by first | exact Or.inl rfl | exact Or.inr ( Or.inl rfl ) | exact Or.inr ( Or.inr rfl )) (by decide) (by decide)) pa_nil (by rfl)) (by decide) (by rfl) (by rfl)) (by rfl) (by first | exact .inl rfl | exact .inr rfl | assumption)) (@pss_cons _ _ _ _ _ (@ps_if _ _ _ _ _ _ _ _ (@pt_cmpR _ _ _ _ _ _ _ _ (@op_neL _ hr.units) (@pe_callB _ _ _ _ _ _ _ _ _ (@call_sortedD _ rfl rfl) rfl B.isorted PyProof.Rows.boot_sorted (@pa_cons _ _ _ _ _ (@pv _ 2 _ _ (by rfl) (by first | exact Or.inl rfl | exact Or.inr ( Or.inl rfl ) | exact Or.inr ( Or.inr rfl )) (by decide) (by decide)) pa_nil (by rfl)) (by decide) (by decide) (by rfl) (by rfl)) (@pe_callB _ _ _ _ _ _ _ _ _ (@call_sortedP _ rfl) rfl B.isorted PyProof.Rows.boot_sorted (@pa_cons _ _ _ _ _ (@pe_op _ _ _ _ _ _ _ _ op_cat (@pe_cal _ _ _ _ _ _ _ _ _ _ _ C_stretches_of hr (by omega) rfl (@pa_cons _ _ _ _ _ (@pv _ 1 _ _ (by rfl) (by first | exact Or.inl rfl | exact Or.inr ( Or.inl rfl ) | exact Or.inr ( Or.inr rfl )) (by decide) (by decide)) pa_nil (by rfl)) (by decide) (by rfl) (by rfl)) (@pe_lc _ _ _ _ _ _ _ _ (["place"]) ([none]) _ _ _ _ rfl (@pi_range1 _ _ _ _ _ _ rfl B.irange (@pa_cons _ _ _ _ _ (@pe_callB _ _ _ _ _ _ _ _ _ call_len_seq rfl B.ilen PySem.boot_len (@pa_cons _ _ _ _ _ (@pv _ 3 _ _ (by rfl) (by first | exact Or.inl rfl | exact Or.inr ( Or.inl rfl ) | exact Or.inr ( Or.inr rfl )) (by decide) (by decide)) pa_nil (by rfl)) (by decide) (by decide) (by rfl) (by rfl)) pa_nil (by rfl)) (by rfl)) rfl trivial trivial (fun _ _ _ _ => ⟨(@pg_name _ _ (0) _ (show List.Nodup (["place"] : List Str) by decide +kernel) rfl (Or.inl rfl) (by first | exact .inl rfl | exact .inr rfl | assumption)), pifs_nil, (@pe_tup _ _ _ _ _ (@pa_cons _ _ _ _ _ (@pv _ 0 _ _ (by rfl) (by first | exact Or.inl rfl | exact Or.inr ( Or.inl rfl ) | exact Or.inr ( Or.inr rfl )) (by decide) (by decide)) (@pa_cons _ _ _ _ _ (@pv _ 0 _ _ (by rfl) (by first | exact Or.inl rfl | exact Or.inr ( Or.inl rfl ) | exact Or.inr ( Or.inr rfl )) (by decide) (by decide)) pa_nil (by rfl)) (by rfl)))⟩) (by rfl) (by rfl) (by rfl) (by rfl) (by intro _; rfl))) pa_nil (by rfl)) (by decide) (by decide) (by rfl) (by rfl)) (nomark _)) (@pss_one _ _ _ (@ps_ret _ _ _ _ pe_bl)) pss_nil) (@pss_cons _ _ _ _ _ (@ps_frz _ _ _ (@ps_for _ _ _ _ _ _ _ _ PassesOwn.never rfl (@pi_keys _ _ _ _ (@pv _ 2 _ _ (by rfl) (by first | exact Or.inl rfl | exact Or.inr ( Or.inl rfl ) | exact Or.inr ( Or.inr rfl )) (by decide) (by decide))) (@pg_name _ _ (4) _ (sc__law_parts_right).nd rfl (Or.inl rfl) (by first | exact .inl rfl | exact .inr rfl | assumption)) (@pss_one _ _ _ (@ps_if _ _ _ _ _ _ _ _ (@pt_cmpR _ _ _ _ _ _ _ _ op_ne (@pe_cal _ _ _ _ _ _ _ _ _ _ _ C_worth_of hr (by omega) rfl (@pa_cons _ _ _ _ _ (@pe_cal _ _ _ _ _ _ _ _ _ _ _ C__law_part hr (by omega) rfl (@pa_cons _ _ _ _ _ (@pv _ 1 _ _ (by rfl) (by first | exact Or.inl rfl | exact Or.inr ( Or.inl rfl ) | exact Or.inr ( Or.inr rfl )) (by decide) (by decide)) (@pa_cons _ _ _ _ _ (@pv _ 4 _ _ (by rfl) (by first | exact Or.inl rfl | exact Or.inr ( Or.inl rfl ) | exact Or.inr ( Or.inr rfl )) (by decide) (by decide)) pa_nil (by rfl)) (by rfl)) (by decide) (by rfl) (by rfl)) pa_nil (by rfl)) (by decide) (by rfl) (by rfl)) (@pe_dget _ _ _ _ _ _ (u1 hr.units) (@pv _ 2 _ _ (by rfl) (by first | exact Or.inl rfl | exact Or.inr ( Or.inl rfl ) | exact Or.inr ( Or.inr rfl )) (by decide) (by decide)) (@pv _ 4 _ _ (by rfl) (by first | exact Or.inl rfl | exact Or.inr ( Or.inl rfl ) | exact Or.inr ( Or.inr rfl )) (by decide) (by decide)) (fun _ _ => rfl)) (nomark _)) (@pss_one _ _ _ (@ps_ret _ _ _ _ pe_bl)) pss_nil)) (by intro _; rfl))) (@pss_cons _ _ _ _ _ (@ps_set _ _ (5) _ _ _ _ (sc__law_parts_right).nd rfl (Or.inr rfl) (@pe_cal _ _ _ _ _ _ _ _ _ _ _ C__law_draw hr (by omega) rfl (@pa_cons _ _ _ _ _ (@pv _ 0 _ _ (by rfl) (by first | exact Or.inl rfl | exact Or.inr ( Or.inl rfl ) | exact Or.inr ( Or.inr rfl )) (by decide) (by decide)) (@pa_cons _ _ _ _ _ (@pe_callB _ _ _ _ _ _ _ _ _ call_len_seq rfl B.ilen PySem.boot_len (@pa_cons _ _ _ _ _ (@pv _ 3 _ _ (by rfl) (by first | exact Or.inl rfl | exact Or.inr ( Or.inl rfl ) | exact Or.inr ( Or.inr rfl )) (by decide) (by decide)) pa_nil (by rfl)) (by decide) (by decide) (by rfl) (by rfl)) pa_nil (by rfl)) (by rfl)) (by decide) (by rfl) (by rfl)) (by rfl) (by first | exact .inl rfl | exact .inr rfl | assumption)) (@pss_cons _ _ _ _ _ (@ps_set _ _ (6) _ _ _ _ (sc__law_parts_right).nd rfl (Or.inl rfl) (@pe_cal _ _ _ _ _ _ _ _ _ _ _ C__law_number hr (by omega) rfl (@pa_cons _ _ _ _ _ (@pv _ 0 _ _ (by rfl) (by first | exact Or.inl rfl | exact Or.inr ( Or.inl rfl ) | exact Or.inr ( Or.inr rfl )) (by decide) (by decide)) pa_nil (by rfl)) (by decide) (by rfl) (by rfl)) (by rfl) (by first | exact .inl rfl | exact .inr rfl | assumption)) (@pss_cons _ _ _ _ _ (@ps_asg _ _ _ _ _ _ (@pe_cal _ _ _ _ _ _ _ _ _ _ _ C_hangs_by hr (by omega) rfl (@pa_cons _ _ _ _ _ (@pv _ 1 _ _ (by rfl) (by first | exact Or.inl rfl | exact Or.inr ( Or.inl rfl ) | exact Or.inr ( Or.inr rfl )) (by decide) (by decide)) (@pa_cons _ _ _ _ _ (@pv _ 5 _ _ (by rfl) (by first | exact Or.inl rfl | exact Or.inr ( Or.inl rfl ) | exact Or.inr ( Or.inr rfl )) (by decide) (by decide)) pa_nil (by rfl)) (by rfl)) (by decide) (by rfl) (by rfl)) (@pg_tup _ _ _ _ _ _ rfl (@pgs_cons _ _ _ _ _ (@pg_name _ _ (7) _ (sc__law_parts_right).nd rfl (Or.inl rfl) (by first | exact .inl rfl | exact .inr rfl | assumption)) (@pgs_cons _ _ _ _ _ (@pg_name _ _ (8) _ (sc__law_parts_right).nd rfl (Or.inl rfl) (by first | exact .inl rfl | exact .inr rfl | assumption)) pgs_nil (by rfl)) (by rfl)) (by rfl) (by rfl)) (by rfl) (by rfl) (by rfl)) (@pss_cons _ _ _ _ _ (@ps_set _ _ (9) _ _ _ _ (sc__law_parts_right).nd rfl (Or.inl rfl) (@pe_cal _ _ _ _ _ _ _ _ _ _ _ C_with_number hr (by omega) rfl (@pa_cons _ _ _ _ _ (@pv _ 1 _ _ (by rfl) (by first | exact Or.inl rfl | exact Or.inr ( Or.inl rfl ) | exact Or.inr ( Or.inr rfl )) (by decide) (by decide)) (@pa_cons _ _ _ _ _ (@pv _ 5 _ _ (by rfl) (by first | exact Or.inl rfl | exact Or.inr ( Or.inl rfl ) | exact Or.inr ( Or.inr rfl )) (by decide) (by decide)) (@pa_cons _ _ _ _ _ (@pv _ 6 _ _ (by rfl) (by first | exact Or.inl rfl | exact Or.inr ( Or.inl rfl ) | exact Or.inr ( Or.inr rfl )) (by decide) (by decide)) pa_nil (by rfl)) (by rfl)) (by rfl)) (by decide) (by rfl) (by rfl)) (by rfl) (by first | exact .inl rfl | exact .inr rfl | assumption)) (@pss_cons _ _ _ _ _ (@ps_if _ _ _ _ _ _ _ _ (@PW.pt _ _ _ (@pw_or _ _ _ _ _ _ _ (@pt_cmpR _ _ _ _ _ _ _ _ op_ne (@pe_dget _ _ _ _ _ _ (u1 hr.units) (@pv _ 2 _ _ (by rfl) (by first | exact Or.inl rfl | exact Or.inr ( Or.inl rfl ) | exact Or.inr ( Or.inr rfl )) (by decide) (by decide)) (@pe_tup _ _ _ _ _ (@pa_cons _ _ _ _ _ pe_int (@pa_cons _ _ _ _ _ (@pe_op _ _ _ _ _ _ _ _ op_sub (@pe_callB _ _ _ _ _ _ _ _ _ call_len_seq rfl B.ilen PySem.boot_len (@pa_cons _ _ _ _ _ (@pv _ 3 _ _ (by rfl) (by first | exact Or.inl rfl | exact Or.inr ( Or.inl rfl ) | exact Or.inr ( Or.inr rfl )) (by decide) (by decide)) pa_nil (by rfl)) (by decide) (by decide) (by rfl) (by rfl)) pe_int) pa_nil (by rfl)) (by rfl))) (fun _ _ => rfl)) (@pe_op _ _ _ _ _ _ _ _ op_add (@pe_op _ _ _ _ _ _ _ _ op_mulB (@pv _ 7 _ _ (by rfl) (by first | exact Or.inl rfl | exact Or.inr ( Or.inl rfl ) | exact Or.inr ( Or.inr rfl )) (by decide) (by decide)) (@pe_ix _ _ _ _ _ _ _ ix_list (@pv _ 3 _ _ (by rfl) (by first | exact Or.inl rfl | exact Or.inr ( Or.inl rfl ) | exact Or.inr ( Or.inr rfl )) (by decide) (by decide)) (@pv _ 5 _ _ (by rfl) (by first | exact Or.inl rfl | exact Or.inr ( Or.inl rfl ) | exact Or.inr ( Or.inr rfl )) (by decide) (by decide)) (fun _ _ => rfl))) (@pv _ 8 _ _ (by rfl) (by first | exact Or.inl rfl | exact Or.inr ( Or.inl rfl ) | exact Or.inr ( Or.inr rfl )) (by decide) (by decide))) (nomark _)) (@pw_or1 _ _ _ _ (@pt_cmpR _ _ _ _ _ _ _ _ op_ne (@pe_cal _ _ _ _ _ _ _ _ _ _ _ C_worth_of hr (by omega) rfl (@pa_cons _ _ _ _ _ (@pv _ 9 _ _ (by rfl) (by first | exact Or.inl rfl | exact Or.inr ( Or.inl rfl ) | exact Or.inr ( Or.inr rfl )) (by decide) (by decide)) pa_nil (by rfl)) (by decide) (by rfl) (by rfl)) (@pe_op _ _ _ _ _ _ _ _ op_add (@pe_op _ _ _ _ _ _ _ _ op_mulB (@pv _ 7 _ _ (by rfl) (by first | exact Or.inl rfl | exact Or.inr ( Or.inl rfl ) | exact Or.inr ( Or.inr rfl )) (by decide) (by decide)) (@pv _ 6 _ _ (by rfl) (by first | exact Or.inl rfl | exact Or.inr ( Or.inl rfl ) | exact Or.inr ( Or.inr rfl )) (by decide) (by decide))) (@pv _ 8 _ _ (by rfl) (by first | exact Or.inl rfl | exact Or.inr ( Or.inl rfl ) | exact Or.inr ( Or.inr rfl )) (by decide) (by decide))) (nomark _))))) (@pss_one _ _ _ (@ps_ret _ _ _ _ pe_bl)) pss_nil) (@pss_cons _ _ _ _ _ (@ps_if _ _ _ _ _ _ _ _ (@PW.pt _ _ _ (@pw_or _ _ _ _ _ _ _ (@pt_cmpR _ _ _ _ _ _ _ _ (@op_neL _ hr.units) (@pe_cal _ _ _ _ _ _ _ _ _ _ _ C_numbers_of hr (by omega) rfl (@pa_cons _ _ _ _ _ (@pv _ 9 _ _ (by rfl) (by first | exact Or.inl rfl | exact Or.inr ( Or.inl rfl ) | exact Or.inr ( Or.inr rfl )) (by decide) (by decide)) pa_nil (by rfl)) (by decide) (by rfl) (by rfl)) (@pe_op _ _ _ _ _ _ _ _ op_cat (@pe_op _ _ _ _ _ _ _ _ op_cat (@pe_slice _ _ _ _ _ _ _ _ _ _ sl_list (@pv _ 3 _ _ (by rfl) (by first | exact Or.inl rfl | exact Or.inr ( Or.inl rfl ) | exact Or.inr ( Or.inr rfl )) (by decide) (by decide)) po_none (@po_some _ _ _ (@pv _ 5 _ _ (by rfl) (by first | exact Or.inl rfl | exact Or.inr ( Or.inl rfl ) | exact Or.inr ( Or.inr rfl )) (by decide) (by decide)))) (@pe_lst _ _ _ _ (@pa_cons _ _ _ _ _ (@pv _ 6 _ _ (by rfl) (by first | exact Or.inl rfl | exact Or.inr ( Or.inl rfl ) | exact Or.inr ( Or.inr rfl )) (by decide) (by decide)) pa_nil (by rfl)))) (@pe_slice _ _ _ _ _ _ _ _ _ _ sl_list (@pv _ 3 _ _ (by rfl) (by first | exact Or.inl rfl | exact Or.inr ( Or.inl rfl ) | exact Or.inr ( Or.inr rfl )) (by decide) (by decide)) (@po_some _ _ _ (@pe_op _ _ _ _ _ _ _ _ op_add (@pv _ 5 _ _ (by rfl) (by first | exact Or.inl rfl | exact Or.inr ( Or.inl rfl ) | exact Or.inr ( Or.inr rfl )) (by decide) (by decide)) pe_int)) po_none)) (nomark _)) (@pw_or1 _ _ _ _ (@pt_cmpR _ _ _ _ _ _ _ _ (@op_neD _ hr.units) (@pe_cal _ _ _ _ _ _ _ _ _ _ _ C_hangs_by hr (by omega) rfl (@pa_cons _ _ _ _ _ (@pv _ 9 _ _ (by rfl) (by first | exact Or.inl rfl | exact Or.inr ( Or.inl rfl ) | exact Or.inr ( Or.inr rfl )) (by decide) (by decide)) (@pa_cons _ _ _ _ _ (@pv _ 5 _ _ (by rfl) (by first | exact Or.inl rfl | exact Or.inr ( Or.inl rfl ) | exact Or.inr ( Or.inr rfl )) (by decide) (by decide)) pa_nil (by rfl)) (by rfl)) (by decide) (by rfl) (by rfl)) (@pe_tup _ _ _ _ _ (@pa_cons _ _ _ _ _ (@pv _ 7 _ _ (by rfl) (by first | exact Or.inl rfl | exact Or.inr ( Or.inl rfl ) | exact Or.inr ( Or.inr rfl )) (by decide) (by decide)) (@pa_cons _ _ _ _ _ (@pv _ 8 _ _ (by rfl) (by first | exact Or.inl rfl | exact Or.inr ( Or.inl rfl ) | exact Or.inr ( Or.inr rfl )) (by decide) (by decide)) pa_nil (by rfl)) (by rfl))) (nomark _))))) (@pss_one _ _ _ (@ps_ret _ _ _ _ pe_bl)) pss_nil) (@pss_cons _ _ _ _ _ (@ps_set _ _ (10) _ _ _ _ (sc__law_parts_right).nd rfl (Or.inr rfl) (@pe_cal _ _ _ _ _ _ _ _ _ _ _ C_part_worths hr (by omega) rfl (@pa_cons _ _ _ _ _ (@pv _ 9 _ _ (by rfl) (by first | exact Or.inl rfl | exact Or.inr ( Or.inl rfl ) | exact Or.inr ( Or.inr rfl )) (by decide) (by decide)) pa_nil (by rfl)) (by decide) (by rfl) (by rfl)) (by rfl) (by first | exact .inl rfl | exact .inr rfl | assumption)) (@pss_one _ _ _ (@ps_ret _ _ _ _ (@pe_cmpR _ _ _ _ _ _ _ _ (@op_eqL _ hr.units) (@pe_frz _ _ _ (@pe_lc _ _ _ _ _ _ _ _ (["i", "j", "place", "worths", "others"]) ([none, none, some 5, some 2, some 10]) _ _ _ _ rfl (@pi_keys _ _ _ _ (@pv _ 2 _ _ (by rfl) (by first | exact Or.inl rfl | exact Or.inr ( Or.inl rfl ) | exact Or.inr ( Or.inr rfl )) (by decide) (by decide))) rfl ⟨rfl, ⟨rfl, ⟨rfl, trivial⟩⟩⟩ ⟨⟨rfl, Or.inl rfl, Or.inl rfl⟩, ⟨⟨rfl, Or.inl rfl, Or.inl rfl⟩, ⟨⟨rfl, Or.inl rfl, Or.inl rfl⟩, trivial⟩⟩⟩ (fun _ _ _ _ => ⟨(@pg_tupK _ _ _ _ _ _ (2) rfl rfl (@pgs_cons _ _ _ _ _ (@pg_name _ _ (0) _ (show List.Nodup (["i", "j", "place", "worths", "others"] : List Str) by decide +kernel) rfl (Or.inl rfl) (by first | exact .inl rfl | exact .inr rfl | assumption)) (@pgs_cons _ _ _ _ _ (@pg_name _ _ (1) _ (show List.Nodup (["i", "j", "place", "worths", "others"] : List Str) by decide +kernel) rfl (Or.inl rfl) (by first | exact .inl rfl | exact .inr rfl | assumption)) pgs_nil (by rfl)) (by rfl)) (by rfl) (by rfl)), (@pifs_one _ _ _ (@PW.pt _ _ _ (@pw_and _ _ _ _ _ _ _ (@pt_not _ _ _ _ (@pt_chain _ _ _ _ _ _ _ _ _ _ _ _ op_le op_le (@pv _ 0 _ _ (by rfl) (by first | exact Or.inl rfl | exact Or.inr ( Or.inl rfl ) | exact Or.inr ( Or.inr rfl )) (by decide) (by decide)) (@pv _ 2 _ _ (by rfl) (by first | exact Or.inl rfl | exact Or.inr ( Or.inl rfl ) | exact Or.inr ( Or.inr rfl )) (by decide) (by decide)) (@pv _ 1 _ _ (by rfl) (by first | exact Or.inl rfl | exact Or.inr ( Or.inl rfl ) | exact Or.inr ( Or.inr rfl )) (by decide) (by decide)) (by with_unfolding_all rfl))) (@pw_and1 _ _ _ _ (@pt_cmpR _ _ _ _ _ _ _ _ op_ne (@pe_dget1 _ _ _ _ _ _ _ (u1 hr.units) (@pv _ 4 _ _ (by rfl) (by first | exact Or.inl rfl | exact Or.inr ( Or.inl rfl ) | exact Or.inr ( Or.inr rfl )) (by decide) (by decide)) (@pe_tup _ _ _ _ _ (@pa_cons _ _ _ _ _ (@pv _ 0 _ _ (by rfl) (by first | exact Or.inl rfl | exact Or.inr ( Or.inl rfl ) | exact Or.inr ( Or.inr rfl )) (by decide) (by decide)) (@pa_cons _ _ _ _ _ (@pv _ 1 _ _ (by rfl) (by first | exact Or.inl rfl | exact Or.inr ( Or.inl rfl ) | exact Or.inr ( Or.inr rfl )) (by decide) (by decide)) pa_nil (by rfl)) (by rfl))) ⟨rfl, rfl, rfl, rfl⟩) (@pe_dget _ _ _ _ _ _ (u1 hr.units) (@pv _ 3 _ _ (by rfl) (by first | exact Or.inl rfl | exact Or.inr ( Or.inl rfl ) | exact Or.inr ( Or.inr rfl )) (by decide) (by decide)) (@pe_tup _ _ _ _ _ (@pa_cons _ _ _ _ _ (@pv _ 0 _ _ (by rfl) (by first | exact Or.inl rfl | exact Or.inr ( Or.inl rfl ) | exact Or.inr ( Or.inr rfl )) (by decide) (by decide)) (@pa_cons _ _ _ _ _ (@pv _ 1 _ _ (by rfl) (by first | exact Or.inl rfl | exact Or.inr ( Or.inl rfl ) | exact Or.inr ( Or.inr rfl )) (by decide) (by decide)) pa_nil (by rfl)) (by rfl))) (fun _ _ => rfl)) (nomark _)))))), pe_int⟩) (by rfl) (by rfl) (by rfl) (by rfl) (by intro _; rfl))) (@pe_lst _ _ _ _ pa_nil) (nomark _)))))))))))))), ?_⟩
  have zs := wy.size_pos
  refine ⟨_, rfl, wy, v, rfl, hw, h9, fun pr H1 g1 nr er => ?_⟩
  have rl : (wy.nums.map V.int).length = wy.size := by rw [List.length_map, wy.nums_len]
  have plen := wy.parts_len 0
  have fine := wy.parts_fine h9
  -- sorted(worths)
  refine ⟨_, rfl, d, _, (wy.parts 0).map (·.1), rfl, g1 _ _ hd, wy.parts_keys 0, by rw [List.length_map]; omega, fine, fun q1 qs1 us1 nq1 pm1 pw1 ip1 => ?_⟩
  have g2 := Same.new nq1 (.lst us1)
  have G2 := g1.trans g2
  refine ⟨_, rfl, wy, v, rfl, hw.mono (Tups.of G2), h9, fun q2 qs2 us2 H3 g3 nq2 e2 ip2 pm2 _ => ?_⟩
  have G3 := G2.trans g3
  have er3 := (g2.trans g3) _ _ er
  refine ⟨_, rfl, pr, _, rfl, .inl (SqL.of er3), _, rfl, by rw [rl]; omega, by rw [rl]; omega, ?_⟩
  rw [rl]
  refine lc_range (lo := 0) (n := wy.size) (fun i ys H' => PairsIn H' (dgs i 0) ys ∧ Same H3 H') ⟨.nil, Same.refl _⟩ (fun i ys H' hi p => ?_) (fun i ys H' hi p nx => ?_) (fun ys H4 p q3 nq3 => ?_)
  · have := Paired.length p.1
    unfold dgs at this
    rw [List.length_map, List.length_range] at this
    exact small1000 (by omega)
  · obtain ⟨ip, S⟩ := p
    refine ⟨_, rfl, _, rfl, (by show 2 ≤ sizeLine; decide), fun b nb => nx ⟨?_, S.trans (Same.new nb _)⟩⟩
    rw [dgs_add]
    have z : (0 : Int) + (i : Int) = 0 + i + ((0 : Nat) : Int) := by omega
    refine PairsIn.app (PairsIn.mono (Tups.of (Same.new nb _)) ip) (.cons ⟨b, rfl, ?_⟩ .nil)
    show _ = some (HO.tup [.int (0 + (i : Int) + ((0 : Nat) : Int)), .int (0 + (i : Int) + ((0 : Nat) : Int))])
    rw [← z]; exact upd_same
  obtain ⟨ip3, S4⟩ := p
  have g5 := Same.new nq3 (.lst ys)
  have l2 := Paired.length ip2
  have l3 := Paired.length ip3
  have sl := wy.strs_len 0
  have pl2 := pm2.length_eq
  have l3' : (dgs wy.size 0).length = wy.size := by unfold dgs; rw [List.length_map, List.length_range]
  refine ⟨q2, q3, _, _, rfl, rfl, g5 _ _ (S4 _ _ e2), upd_same, le_line (by omega), fun q4 nq4 => ?_⟩
  have g6 := Same.new nq4 (.lst (us2 ++ ys))
  have ipA := PairsIn.app (PairsIn.mono (Tups.of ((S4.trans g5).trans g6)) ip2) (PairsIn.mono (Tups.of (g5.trans g6)) ip3)
  have pmA : (qs2 ++ dgs wy.size 0).Perm ((wy.parts 0).map (·.1)) := (pm2.append_right _).trans (wy.parts_perm 0).symm
  have fineA : Fine (qs2 ++ dgs wy.size 0) := ⟨fun p hp => fine.1 p (pmA.mem_iff.mp hp), pmA.nodup_iff.mpr fine.2⟩
  refine ⟨q4, _, qs2 ++ dgs wy.size 0, rfl, upd_same, ipA, by rw [List.length_append]; omega, fineA, fun q5 qs5 us5 nq5 pm5 pw5 ip5 => ?_⟩
  have g7 := Same.new nq5 (.lst us5)
  have eq : qs5 = qs1 := pairs_one (pm5.trans pmA) pm1 fine pw5 pw1
  subst eq
  have G27 := (((g3.trans S4).trans g5).trans g6).trans g7
  refine same_prs (ps := qs5) (SqL.of (G27 _ _ upd_same)) (SqL.of upd_same) (PairsIn.mono (Tups.of (g2.trans G27)) ip1) (PairsIn.mono (Tups.of g7) ip5) ⟨false, rfl, iteF ?_⟩
  have G7 := G2.trans G27
  revert G7 G27
  generalize upd (upd (upd H4 q3 (.lst ys)) q4 (.lst (us2 ++ ys))) q5 (.lst us5) = H7
  intro G27 G7
  have hd7 := G7 _ _ hd
  have er7 := (g2.trans G27) _ _ er
  have hw7 := hw.mono (Tups.of G7)
  have nrw : pr ≠ wl := hwl.ne nr
  have hw7' := hwl.keep G7 (Int.le_refl _)
  clear ip5 pw5 pm5 nq5 g7 fineA pmA ipA g6 nq4 q4 l3' l2 l3 g5 nq3 q3 ip3 S4 G3 er3 e2 ip2 pm2 pl2 nq2 ip1 pw1 pm1 g2 nq1
  -- the parts
  refine ⟨d, _, hd7, fun o => ⟨_, rfl, d, o, _, rfl, upd_same, ?_⟩⟩
  have tf : Tups H7 (upd H7 d (.frz o (.dT (wy.pwl 0)))) := frz_tups hd7
  refine for_keys (fun i σ H' => ∃ st, σ = [some (.ref wl), some v, some (.ref d), some (.ref pr), st, none, none, none, none, none, none] ∧ Same (upd H7 d (.frz o (.dT (wy.pwl 0)))) H') ⟨_, rfl, Same.refl _⟩ ?_ ?_ ?_
  · rintro i σ H' hi ⟨st, rfl, S⟩
    exact S _ _ upd_same
  · rintro i kv b σ H' hkv hb ⟨st, rfl, S⟩
    rw [wy.parts_pwl, List.getElem?_map] at hkv
    obtain ⟨p, hp, rfl⟩ := Option.map_eq_some_iff.mp hkv
    have hp := List.mem_of_getElem? hp
    have pin := wy.parts_in 0 p hp
    have hb : H' b = some (.tup [.int p.1.1, .int p.1.2]) := hb
    refine ⟨_, rfl, _, rfl, wy, v, b, p, rfl, hw7.mono (tf.trans (Tups.of S)), h9, hb, hp, fun u H8 g8 iu => ?_⟩
    refine ⟨p.2, u, rfl, iu, by omega, pin.2.2.2.2 hB, fun H9 g9 => ?_⟩
    have S9 := (S.trans g8).trans g9
    have vm : valV (wy.pwl 0) (k2 p.1.1 p.1.2) = some (.int p.2.worth) := val_mem (wy.pwl_nodup 0) (by rw [wy.parts_pwl]; exact List.mem_map.mpr ⟨p, hp, rfl⟩)
    refine ⟨_, rfl, _, rfl, d, .int p.2.worth, rfl, by rw [← vm]; exact DGet.f (S9 _ _ upd_same) (k := k2 p.1.1 p.1.2) ((g8.trans g9) _ _ hb), rfl, _, rfl, iteNS rfl ?_⟩
    exact ⟨_, rfl, S9⟩
  rintro σ H8 ⟨st, rfl, S8⟩
  refine ⟨S8 _ _ upd_same, ?_⟩
  have G8 := thaw hd7 S8
  revert G8
  generalize upd H8 d (.dT (wy.pwl 0)) = H9
  intro G8
  have hd9 := G8 _ _ hd7
  have er9 := G8 _ _ er7
  have hw9 := hw7.mono (Tups.of G8)
  have w9 := hw7'.keep G8 (Int.le_refl _)
  have dwl : d ≠ wl := fun e => by
    obtain ⟨a, b, c, z, _⟩ := hwl
    rw [← e, hd] at z; cases z
  -- a place and a number
  refine ⟨_, rfl, _, rfl, pr, _, rfl, .inl (SqL.of er9), wl, ((wy.nums.map V.int).length : Int), _, rfl, by rw [rl]; omega, by rw [rl]; omega, w9, by omega, fun p0 H10 p00 p01 k10 w10 => ?_⟩
  rw [rl] at p01
  obtain ⟨p, rfl⟩ : ∃ p : Nat, p0 = p := ⟨p0.toNat, by omega⟩
  have hp : p < wy.size := by omega
  refine ⟨_, rfl, wl, _, rfl, w10, by omega, fun n H11 n0 n1 k11 w11 => ?_⟩
  have K11 := k10.trans k11
  have hnb : n.natAbs < 2 ^ 131 := by
    have z : (1000000000000 : Nat) < 2 ^ 131 := by decide
    omega
  have hw11 := hw9.mono (w9.tups K11)
  have er11 := K11 _ _ nrw er9
  have hd11 := K11 _ _ dwl hd9
  refine ⟨_, rfl, _, rfl, wy, v, p, rfl, hw11, h9, p00, p01, hB, fun a12 H12 g12 n12 e12 => ⟨a12, _, rfl, SqT.of e12, rfl, _, _, rfl, _, _, rfl, rfl, ?_⟩⟩
  refine ⟨_, rfl, _, rfl, _, rfl, wy, v, p, n, rfl, hw11.mono (Tups.of g12), h9, p00, p01, fun u H13 g13 i13 => ?_⟩
  have G13 := g12.trans g13
  have er13 := G13 _ _ er11
  have hd13 := G13 _ _ hd11
  have hBp : (wy.put p n).Bd := Wy.put_Bd hB p hnb
  have szp := wy.put_size p n
  have tb := wy.tp_bd p hB
  -- the worth by the place
  obtain ⟨x, hx⟩ : ∃ x, wy.nums[p]? = some x := ⟨_, List.getElem?_eq_getElem (by rw [wy.nums_len]; exact hp)⟩
  have hxb : x.natAbs < 2 ^ 131 := hB x (List.mem_of_getElem? hx)
  have wx : wy.worth = (wy.tp p).1 * x + (wy.tp p).2 := by
    have := wy.tp_worth p x p00 p01
    rw [wy.put_self p x hx] at this
    exact this
  refine ⟨_, rfl, _, rfl, pr, _, rfl, .inl (SqL.of er13), _, _, rfl, rfl, (by show 2 ≤ sizeLine; decide), fun b14 nb14 => ?_⟩
  have g14 := Same.new nb14 (.tup [.int 0, .int (((wy.nums.map V.int).length : Int) - 1)])
  have vt : valV (wy.pwl 0) (k2 0 (((wy.nums.map V.int).length : Int) - 1)) = some (.int wy.worth) := by
    have := val_mem (wy.pwl_nodup 0) (wy.pwl_mem 0)
    rw [rl, show ((wy.size : Nat) : Int) - 1 = 0 + wy.size - 1 by omega]; exact this
  refine ⟨d, .int wy.worth, rfl, by rw [← vt]; exact DGet.t (g14 _ _ hd13) (k := k2 0 (((wy.nums.map V.int).length : Int) - 1)) upd_same, ?_⟩
  have er14 := g14 _ _ er13
  refine ⟨_, rfl, _, rfl, _, rfl, pr, _, _, .int x, rfl, rfl, SqL.of er14, atI_nat (by rw [List.getElem?_map, hx]; rfl), _, _, rfl, rfl, ⟨big tb.1 (by omega), up_bd hxb (by decide)⟩, _, rfl, _, _, rfl, rfl, rfl, _, rfl, iteNS (congrArg V.int wx) ?_⟩
  refine ⟨_, rfl, wy.put p n, u, rfl, i13.mono (Tups.of g14), by omega, hBp, fun H15 g15 => ?_⟩
  refine ⟨_, rfl, _, rfl, _, _, rfl, rfl, ⟨big tb.1 (by omega), up_bd hnb (by decide)⟩, _, rfl, _, _, rfl, rfl, rfl, _, rfl, iteNS (congrArg V.int (wy.tp_worth p n p00 p01)) ?_⟩
  -- its numbers
  have G15 := g14.trans g15
  refine ⟨_, rfl, wy.put p n, u, rfl, i13.mono (Tups.of G15), by omega, fun p16 H16 g16 n16 e16 => ?_⟩
  have er16 := (G15.trans g16) _ _ er13
  refine ⟨_, rfl, _, rfl, _, rfl, pr, _, rfl, SqL.of er16, fun s1 ns1 => ?_⟩
  rw [cut_take wy.nums p (by rw [wy.nums_len]; omega)]
  have h1 := Same.new ns1 (.lst ((wy.nums.take p).map V.int))
  refine ⟨_, rfl, (by show 1 ≤ sizeLine; decide), fun s2 ns2 => ?_⟩
  have h2 := Same.new ns2 (.lst [.int n])
  refine ⟨s1, s2, _, _, rfl, rfl, h2 _ _ upd_same, upd_same, le_line (by rw [List.length_map, List.length_take]; show _ + 1 ≤ 1000; omega), fun s3 ns3 => ?_⟩
  have h3 := Same.new ns3 (.lst ((wy.nums.take p).map V.int ++ [.int n]))
  refine ⟨_, rfl, _, rfl, _, _, rfl, rfl, _, rfl, pr, _, rfl, SqL.of (((h1.trans h2).trans h3) _ _ er16), fun s4 ns4 => ?_⟩
  rw [show ((p : Int) + 1) = ((p + 1 : Nat) : Int) by omega, cut_drop wy.nums (p + 1) (by rw [wy.nums_len]; omega)]
  have h4 := Same.new ns4 (.lst ((wy.nums.drop (p + 1)).map V.int))
  refine ⟨s3, s4, _, _, rfl, rfl, h4 _ _ upd_same, upd_same, le_line (by rw [List.length_append, List.length_map, List.length_map, List.length_take, List.length_drop, wy.nums_len]; show _ + 1 + _ ≤ 1000; omega), fun s5 ns5 => ?_⟩
  have en : (wy.put p n).nums.map V.int = (wy.nums.take p).map V.int ++ [.int n] ++ (wy.nums.drop (p + 1)).map V.int := by
    rw [wy.put_set p n hp, List.set_eq_take_append_cons_drop, if_pos (by rw [wy.nums_len]; exact hp), List.map_append, List.map_cons]
    simp
  rw [← en]
  have h5 := Same.new ns5 (.lst ((wy.put p n).nums.map V.int))
  have G20 := ((((G15.trans g16).trans h1).trans h2).trans h3).trans (h4.trans h5)
  refine same_all (SqL.of (((((h1.trans h2).trans h3).trans h4).trans h5) _ _ e16)) (SqL.of upd_same) ints_flat ⟨false, rfl, iteF ?_⟩
  revert G20
  generalize upd (upd (upd (upd (upd H16 s1 (.lst ((wy.nums.take p).map V.int))) s2 (.lst [.int n])) s3 (.lst ((wy.nums.take p).map V.int ++ [.int n]))) s4 (.lst ((wy.nums.drop (p + 1)).map V.int))) s5 (.lst ((wy.put p n).nums.map V.int)) = H20
  intro G20
  refine ⟨_, rfl, _, rfl, wy.put p n, u, p, rfl, i13.mono (Tups.of G20), by omega, p00, by rw [szp]; exact p01, hBp, fun a21 H21 g21 n21 e21 => ?_⟩
  rw [wy.tp_put p n p00 p01] at e21
  refine ⟨_, rfl, _, rfl, (by show 2 ≤ sizeLine; decide), fun a22 n22 => ?_⟩
  have g22 := Same.new n22 (.tup [.int (wy.tp p).1, .int (wy.tp p).2])
  refine ⟨_, _, pairDat (g22 _ _ e21), pairDat (i := (wy.tp p).1) (j := (wy.tp p).2) upd_same, rfl, rfl, pairDepth _ _, false, congrArg V.bl (by rw [pairEq2]; rfl), iteF ?_⟩
  have G22 := (G20.trans g21).trans g22
  -- the other parts
  refine ⟨_, rfl, wy.put p n, u, rfl, i13.mono (Tups.of G22), by omega, hBp, fun po H23 g23 n23 e23 => ?_⟩
  have G23 := G22.trans g23
  have hd23 := G23 _ _ hd13
  have dpo : po ≠ d := Ne.symm (ne_of_none (G22 _ _ hd13) n23)
  refine ⟨d, _, hd23, fun o => ⟨_, rfl, d, o, _, rfl, upd_same, ?_⟩⟩
  refine lc_keys (fun i ys H' => ys = [] ∧ Same (upd H23 d (.frz o (.dT (wy.pwl 0)))) H') ⟨rfl, Same.refl _⟩ ?_ ?_ ?_
  · rintro i ys H' hi ⟨rfl, S⟩
    exact ⟨S _ _ upd_same, small1000 (by decide)⟩
  · rintro i kv b ys H' hkv hb ⟨rfl, S⟩ nx
    rw [wy.parts_pwl, List.getElem?_map] at hkv
    obtain ⟨pt, hpt, rfl⟩ := Option.map_eq_some_iff.mp hkv
    have hpt := List.mem_of_getElem? hpt
    have vm : valV (wy.pwl 0) (k2 pt.1.1 pt.1.2) = some (.int pt.2.worth) := val_mem (wy.pwl_nodup 0) (by rw [wy.parts_pwl]; exact List.mem_map.mpr ⟨pt, hpt, rfl⟩)
    have epo : H' po = some (.dT ((wy.put p n).pwl 0)) := S _ _ (by rw [upd_ne dpo]; exact e23)
    refine ⟨b, _, rfl, SqT.of hb, rfl, _, _, rfl, _, _, rfl, rfl, ?_⟩
    have vput : ¬ (pt.1.1 ≤ (p : Int) ∧ (p : Int) ≤ pt.1.2) → valV ((wy.put p n).pwl 0) (k2 pt.1.1 pt.1.2) = some (.int pt.2.worth) := fun hn => by
      refine val_mem ((wy.put p n).pwl_nodup 0) ?_
      rw [(wy.put p n).parts_pwl]
      exact List.mem_map.mpr ⟨pt, wy.parts_put 0 p n pt hpt (by rw [Int.zero_add]; exact hn), rfl⟩
    by_cases hi : pt.1.1 ≤ (p : Int)
    · by_cases hj : (p : Int) ≤ pt.1.2
      · refine ⟨_, rfl, _, rfl, _, _, rfl, rfl, true, congrArg V.bl (decide_eq_true hi), iteT ⟨_, rfl, _, _, rfl, rfl, true, congrArg V.bl (decide_eq_true hj), ?_⟩⟩
        exact iteF (iteF (nx ⟨rfl, S⟩))
      · have hn : ¬ (pt.1.1 ≤ (p : Int) ∧ (p : Int) ≤ pt.1.2) := fun z => hj z.2
        refine ⟨_, rfl, _, rfl, _, _, rfl, rfl, true, congrArg V.bl (decide_eq_true hi), iteT ⟨_, rfl, _, _, rfl, rfl, false, congrArg V.bl (decide_eq_false hj), ?_⟩⟩
        refine iteT ?_
        refine ⟨_, rfl, po, rfl, .inr ⟨_, .inl epo⟩, _, rfl, _, rfl, (by show 2 ≤ sizeLine; decide), fun c1 m1 => ?_⟩
        have z1 := Same.new m1 (.tup [.int pt.1.1, .int pt.1.2])
        have vo : valV ((wy.put p n).pwl 0) (k2 pt.1.1 pt.1.2) = some (.int pt.2.worth) := vput hn
        refine ⟨some (.int pt.2.worth), by rw [← vo]; exact DGet.t (z1 _ _ epo) (k := k2 pt.1.1 pt.1.2) upd_same, _, rfl, _, rfl, _, rfl, (by show 2 ≤ sizeLine; decide), fun c2 m2 => ?_⟩
        have z2 := Same.new m2 (.tup [.int pt.1.1, .int pt.1.2])
        refine ⟨d, .int pt.2.worth, rfl, by rw [← vm]; exact DGet.f (z2 _ _ (z1 _ _ (S _ _ upd_same))) (k := k2 pt.1.1 pt.1.2) upd_same, rfl, _, rfl, iteNS rfl (nx ⟨rfl, (S.trans z1).trans z2⟩)⟩
    · have hn : ¬ (pt.1.1 ≤ (p : Int) ∧ (p : Int) ≤ pt.1.2) := fun z => hi z.1
      refine ⟨_, rfl, _, rfl, _, _, rfl, rfl, false, congrArg V.bl (decide_eq_false hi), iteF ?_⟩
      refine ⟨false, rfl, iteT ?_⟩
      refine ⟨_, rfl, po, rfl, .inr ⟨_, .inl epo⟩, _, rfl, _, rfl, (by show 2 ≤ sizeLine; decide), fun c1 m1 => ?_⟩
      have z1 := Same.new m1 (.tup [.int pt.1.1, .int pt.1.2])
      have vo : valV ((wy.put p n).pwl 0) (k2 pt.1.1 pt.1.2) = some (.int pt.2.worth) := vput hn
      refine ⟨some (.int pt.2.worth), by rw [← vo]; exact DGet.t (z1 _ _ epo) (k := k2 pt.1.1 pt.1.2) upd_same, _, rfl, _, rfl, _, rfl, (by show 2 ≤ sizeLine; decide), fun c2 m2 => ?_⟩
      have z2 := Same.new m2 (.tup [.int pt.1.1, .int pt.1.2])
      refine ⟨d, .int pt.2.worth, rfl, by rw [← vm]; exact DGet.f (z2 _ _ (z1 _ _ (S _ _ upd_same))) (k := k2 pt.1.1 pt.1.2) upd_same, rfl, _, rfl, iteNS rfl (nx ⟨rfl, (S.trans z1).trans z2⟩)⟩
  rintro ys H24 ⟨rfl, S24⟩ p25 n25
  have ne25 : p25 ≠ d := fun z => by rw [z, S24 _ _ upd_same] at n25; cases n25
  refine ⟨by rw [upd_ne (Ne.symm ne25)]; exact S24 _ _ upd_same, ?_⟩
  have G25 := thaw hd23 (S24.trans (Same.new n25 (.lst [])))
  have e25 : upd (upd H24 p25 (.lst [])) d (.dT (wy.pwl 0)) p25 = some (.lst []) := by rw [upd_ne ne25]; exact upd_same
  revert G25 e25
  generalize upd (upd H24 p25 (.lst [])) d (.dT (wy.pwl 0)) = H25
  intro G25 e25
  refine ⟨(by show 0 ≤ sizeLine; decide), fun p26 n26 => ?_⟩
  have g26 := Same.new n26 (.lst [])
  refine same_all (SqL.of (g26 _ _ e25)) (SqL.of upd_same) (fun x hx => nomatch hx) ?_
  have GG := (G13.trans G23).trans (G25.trans g26)
  exact q _ (((But.of G7).trans (But.of G8)).trans (K11.trans (But.of GG))) (w11.keep GG (by omega))
end
end Put

set_option Elab.async false
set_option linter.all false
set_option maxRecDepth 100000
set_option maxHeartbeats 2000000
namespace Put
open PySem L2
/-! ### sums turned, products -/
def Wy.shape : Wy → Wy
  | .num _ => .num 0
  | .node g l r => .node g l.shape r.shape
def Wy.neg : Wy → Wy
  | .num i => .num (0 - i)
  | .node g l r => .node g l.neg r.neg
theorem Wy.shape_size : ∀ w : Wy, w.shape.size = w.size
  | .num _ => rfl
  | .node _ l r => by show l.shape.size + r.shape.size = l.size + r.size; rw [l.shape_size, r.shape_size]
theorem Wy.put_shape : ∀ (w : Wy) (p n : Int), (w.put p n).shape = w.shape
  | .num i, p, n => by unfold Wy.put; split <;> rfl
  | .node g l r, p, n => by show Wy.node g (l.put p n).shape (r.put (p - l.size) n).shape = Wy.node g l.shape r.shape; rw [l.put_shape, r.put_shape]
theorem Wy.neg_shape : ∀ w : Wy, w.neg.shape = w.shape
  | .num i => rfl
  | .node g l r => by show Wy.node g l.neg.shape r.neg.shape = Wy.node g l.shape r.shape; rw [l.neg_shape, r.neg_shape]
theorem Wy.neg_nums : ∀ w : Wy, w.neg.nums = w.nums.map (0 - ·)
  | .num i => rfl
  | .node g l r => by show l.neg.nums ++ r.neg.nums = (l.nums ++ r.nums).map (0 - ·); rw [l.neg_nums, r.neg_nums, List.map_append]
theorem Wy.shape_eq : ∀ (w v : Wy), w.shape = v.shape → w.nums = v.nums → w = v
  | .num i, .num j, _, h => by
    have : [i] = [j] := h
    simp at this; rw [this]
  | .num _, .node _ _ _, h, _ => by cases h
  | .node _ _ _, .num _, h, _ => by cases h
  | .node g l r, .node g' l' r', h, hn => by
    have h : Wy.node g l.shape r.shape = Wy.node g' l'.shape r'.shape := h
    injection h with h1 h2 h3
    have hn : l.nums ++ r.nums = l'.nums ++ r'.nums := hn
    have z : l.nums.length = l'.nums.length := by rw [l.nums_len, l'.nums_len, ← l.shape_size, ← l'.shape_size, h2]
    have := List.append_inj hn z
    rw [h1, Wy.shape_eq l l' h2 this.1, Wy.shape_eq r r' h3 this.2]
theorem Wy.neg_worth : ∀ w : Wy, w.within [.plus, .minus] → w.neg.worth = 0 - w.worth
  | .num i, _ => rfl
  | .node g l r, h => by
    have a := l.neg_worth h.2.1
    have b := r.neg_worth h.2.2
    show g.op l.neg.worth r.neg.worth = 0 - g.op l.worth r.worth
    rw [a, b]
    have hg := h.1
    cases g with
    | plus => show 0 - l.worth + (0 - r.worth) = 0 - (l.worth + r.worth); omega
    | minus => show 0 - l.worth - (0 - r.worth) = 0 - (l.worth - r.worth); omega
    | times => simp at hg
def prodI : List Int → Int
  | [] => 1
  | x :: r => x * prodI r
theorem prodI_app : ∀ (a b : List Int), prodI (a ++ b) = prodI a * prodI b
  | [], b => by show prodI b = 1 * prodI b; rw [Int.one_mul]
  | x :: r, b => by show x * prodI (r ++ b) = x * prodI r * prodI b; rw [prodI_app r b, Int.mul_assoc]
theorem Wy.prod_worth : ∀ w : Wy, w.within [.times] → w.worth = prodI w.nums
  | .num i, _ => by show i = i * 1; rw [Int.mul_one]
  | .node g l r, h => by
    have hg : g = .times := by have := h.1; simpa using this
    subst hg
    show l.worth * r.worth = prodI (l.nums ++ r.nums)
    rw [prodI_app, l.prod_worth h.2.1, r.prod_worth h.2.2]
theorem prodI_bd : ∀ (a : List Int), (∀ i ∈ a, i.natAbs < 2 ^ 131) → (prodI a).natAbs < 2 ^ (1 + 131 * a.length)
  | [], _ => by show (1 : Nat) < 2 ^ 1; decide
  | x :: r, h => by
    have a := h x List.mem_cons_self
    have b := prodI_bd r fun i hi => h i (List.mem_cons_of_mem _ hi)
    show (x * prodI r).natAbs < 2 ^ (1 + 131 * (r.length + 1))
    exact up_bd (mul_bd a b) (by omega)
theorem set_step {A R : List Int} {i : Nat} {x : Int} (hl : A.length = R.length) (h : A[i]? = some x) : (A.take i ++ R.drop i).set i x = A.take (i + 1) ++ R.drop (i + 1) := by
  have hi : i < A.length := (List.getElem?_eq_some_iff.mp h).1
  have e : (A.take i).length = i := by rw [List.length_take]; omega
  rw [List.set_append, if_neg (by omega), e, Nat.sub_self, List.take_succ, h, List.drop_eq_getElem_cons (by omega : i < R.length)]
  show A.take i ++ (x :: R.drop (i + 1)) = (A.take i ++ [x]) ++ R.drop (i + 1)
  rw [List.append_assoc]; rfl
theorem small_neg {ns : List Int} (h : Small ns) : Small (ns.map (0 - ·)) := fun i hi => by
  obtain ⟨j, hj, rfl⟩ := List.mem_map.mp hi
  have := h j hj
  show -1000000000000 < 0 - j ∧ 0 - j < 1000000000000
  omega
section
variable {P : Program} {w : World} {K : PySem.W.Frag} {mg : Str → Option Value} {base : Heap} {f : Addr} {fd : FuncData}
def spLaw (K : PySem.W.Frag) : Sp := fun vs H Q _ => ∃ (a : Addr) (ns : List Int), vs = [.ref a] ∧ SqL K H a (ns.map V.int) ∧ ns.length ≤ 63 ∧ ∀ H', Q (.bl true) H'
abbrev s_law : Stmt := top 38
theorem sc_law : FnScope ["script", "cell", "well", "row", "way", "worths", "cut", "one", "other", "both", "first", "second", "sums", "place", "turned", "product", "number"] ["script"] (defScope s_law) := ⟨rfl, rfl, rfl, by decide +kernel, rfl, by decide +kernel, by decide +kernel⟩
theorem ok_law (F : Fun K "law" "law" s_law f fd) (B : Bu K mg) (C__law_well : Cal P w K mg base "_law_well" 1 ["cell"] spWell) (C__law_draw : Cal P w K mg base "_law_draw" 2 ["well", "many"] spDraw) (C__law_row : Cal P w K mg base "_law_row" 4 ["well", "many"] spRow)
    (C__law_signs : Cal P w K mg base "_law_signs" 3 ["well"] spLawSigns) (C__law_way : Cal P w K mg base "_law_way" 11 ["well", "row", "signs"] (spWay 9)) (C__law_parts_right : Cal P w K mg base "_law_parts_right" 44 ["well", "way", "worths"] spPartsRight)
    (C_worth_of : Cal P w K mg base "worth_of" 22 ["way"] spWorthOf) (C_part_worths : Cal P w K mg base "part_worths" 43 ["way"] spPartWorths) (C_with_number : Cal P w K mg base "with_number" 43 ["way", "place", "number"] spWithNumber) : FnOk P w K mg base CX0 45 f fd ["script"] (spLaw K) := by
  refine F.ok sc_law (fun vs H Q E h => ?_) (fun cdv A outer s H vs Q E hr h => ?_)
  · obtain ⟨a, ns, rfl, _⟩ := h
    rfl
  obtain ⟨a, ns, rfl, hS, h63, q⟩ := h
  refine ⟨_, (@pss_cons _ _ _ _ _ (@ps_for _ _ _ _ _ _ _ _ PassesOwn.never rfl (@pi_list _ _ _ _ (@pe_op _ _ _ _ _ _ _ _ op_cat (@pe_lst _ _ _ _ (@pa_cons _ _ _ _ _ pe_int pa_nil (by rfl))) (@pe_slice _ _ _ _ _ _ _ _ _ _ sl_list (@pv _ 0 _ _ (by rfl) (by first | exact Or.inl rfl | exact Or.inr ( Or.inl rfl ) | exact Or.inr ( Or.inr rfl )) (by decide) (by decide)) po_none (@po_some _ _ _ pe_int)))) (@pg_name _ _ (1) _ (sc_law).nd rfl (Or.inl rfl) (by first | exact .inl rfl | exact .inr rfl | assumption)) (@pss_cons _ _ _ _ _ (@ps_set _ _ (2) _ _ _ _ (sc_law).nd rfl (Or.inl rfl) (@pe_cal _ _ _ _ _ _ _ _ _ _ _ C__law_well hr (by omega) rfl (@pa_cons _ _ _ _ _ (@pv _ 1 _ _ (by rfl) (by first | exact Or.inl rfl | exact Or.inr ( Or.inl rfl ) | exact Or.inr ( Or.inr rfl )) (by decide) (by decide)) pa_nil (by rfl)) (by decide) (by rfl) (by rfl)) (by rfl) (by first | exact .inl rfl | exact .inr rfl | assumption)) (@pss_cons _ _ _ _ _ (@ps_set _ _ (3) _ _ _ _ (sc_law).nd rfl (Or.inl rfl) (@pe_cal _ _ _ _ _ _ _ _ _ _ _ C__law_row hr (by omega) rfl (@pa_cons _ _ _ _ _ (@pv _ 2 _ _ (by rfl) (by first | exact Or.inl rfl | exact Or.inr ( Or.inl rfl ) | exact Or.inr ( Or.inr rfl )) (by decide) (by decide)) (@pa_cons _ _ _ _ _ (@pe_op _ _ _ _ _ _ _ _ op_add pe_int (@pe_cal _ _ _ _ _ _ _ _ _ _ _ C__law_draw hr (by omega) rfl (@pa_cons _ _ _ _ _ (@pv _ 2 _ _ (by rfl) (by first | exact Or.inl rfl | exact Or.inr ( Or.inl rfl ) | exact Or.inr ( Or.inr rfl )) (by decide) (by decide)) (@pa_cons _ _ _ _ _ pe_int pa_nil (by rfl)) (by rfl)) (by decide) (by rfl) (by rfl))) pa_nil (by rfl)) (by rfl)) (by decide) (by rfl) (by rfl)) (by rfl) (by first | exact .inl rfl | exact .inr rfl | assumption)) (@pss_cons _ _ _ _ _ (@ps_set _ _ (4) _ _ _ _ (sc_law).nd rfl (Or.inl rfl) (@pe_cal _ _ _ _ _ _ _ _ _ _ _ C__law_way hr (by omega) rfl (@pa_cons _ _ _ _ _ (@pv _ 2 _ _ (by rfl) (by first | exact Or.inl rfl | exact Or.inr ( Or.inl rfl ) | exact Or.inr ( Or.inr rfl )) (by decide) (by decide)) (@pa_cons _ _ _ _ _ (@pv _ 3 _ _ (by rfl) (by first | exact Or.inl rfl | exact Or.inr ( Or.inl rfl ) | exact Or.inr ( Or.inr rfl )) (by decide) (by decide)) (@pa_cons _ _ _ _ _ (@pe_cal _ _ _ _ _ _ _ _ _ _ _ C__law_signs hr (by omega) rfl (@pa_cons _ _ _ _ _ (@pv _ 2 _ _ (by rfl) (by first | exact Or.inl rfl | exact Or.inr ( Or.inl rfl ) | exact Or.inr ( Or.inr rfl )) (by decide) (by decide)) pa_nil (by rfl)) (by decide) (by rfl) (by rfl)) pa_nil (by rfl)) (by rfl)) (by rfl)) (by decide) (by rfl) (by rfl)) (by rfl) (by first | exact .inl rfl | exact .inr rfl | assumption)) (@pss_cons _ _ _ _ _ (@ps_set _ _ (5) _ _ _ _ (sc_law).nd rfl (Or.inl rfl) (@pe_cal _ _ _ _ _ _ _ _ _ _ _ C_part_worths hr (by omega) rfl (@pa_cons _ _ _ _ _ (@pv _ 4 _ _ (by rfl) (by first | exact Or.inl rfl | exact Or.inr ( Or.inl rfl ) | exact Or.inr ( Or.inr rfl )) (by decide) (by decide)) pa_nil (by rfl)) (by decide) (by rfl) (by rfl)) (by rfl) (by first | exact .inl rfl | exact .inr rfl | assumption)) (@pss_cons _ _ _ _ _ (@ps_if _ _ _ _ _ _ _ _ (@PW.pt _ _ _ (@pw_or _ _ _ _ _ _ _ (@pt_cmpR _ _ _ _ _ _ _ _ op_ne (@pe_cal _ _ _ _ _ _ _ _ _ _ _ C_worth_of hr (by omega) rfl (@pa_cons _ _ _ _ _ (@pv _ 4 _ _ (by rfl) (by first | exact Or.inl rfl | exact Or.inr ( Or.inl rfl ) | exact Or.inr ( Or.inr rfl )) (by decide) (by decide)) pa_nil (by rfl)) (by decide) (by rfl) (by rfl)) (@pe_dget1 _ _ _ _ _ _ _ (u1 hr.units) (@pv _ 5 _ _ (by rfl) (by first | exact Or.inl rfl | exact Or.inr ( Or.inl rfl ) | exact Or.inr ( Or.inr rfl )) (by decide) (by decide)) (@pe_tup _ _ _ _ _ (@pa_cons _ _ _ _ _ pe_int (@pa_cons _ _ _ _ _ (@pe_op _ _ _ _ _ _ _ _ op_sub (@pe_callB _ _ _ _ _ _ _ _ _ call_len_seq rfl B.ilen PySem.boot_len (@pa_cons _ _ _ _ _ (@pv _ 3 _ _ (by rfl) (by first | exact Or.inl rfl | exact Or.inr ( Or.inl rfl ) | exact Or.inr ( Or.inr rfl )) (by decide) (by decide)) pa_nil (by rfl)) (by decide) (by decide) (by rfl) (by rfl)) pe_int) pa_nil (by rfl)) (by rfl))) ⟨rfl, rfl, rfl, rfl⟩) (nomark _)) (@pw_or1 _ _ _ _ (@pt_not _ _ _ _ (@pt_val _ _ _ (@pe_cal _ _ _ _ _ _ _ _ _ _ _ C__law_parts_right hr (by omega) rfl (@pa_cons _ _ _ _ _ (@pv _ 2 _ _ (by rfl) (by first | exact Or.inl rfl | exact Or.inr ( Or.inl rfl ) | exact Or.inr ( Or.inr rfl )) (by decide) (by decide)) (@pa_cons _ _ _ _ _ (@pv _ 4 _ _ (by rfl) (by first | exact Or.inl rfl | exact Or.inr ( Or.inl rfl ) | exact Or.inr ( Or.inr rfl )) (by decide) (by decide)) (@pa_cons _ _ _ _ _ (@pv _ 5 _ _ (by rfl) (by first | exact Or.inl rfl | exact Or.inr ( Or.inl rfl ) | exact Or.inr ( Or.inr rfl )) (by decide) (by decide)) pa_nil (by rfl)) (by rfl)) (by rfl)) (by decide) (by rfl) (by rfl)) (by intro _; rfl)))))) (@pss_one _ _ _ (@ps_ret _ _ _ _ pe_bl)) pss_nil) (@pss_cons _ _ _ _ _ (@ps_set _ _ (6) _ _ _ _ (sc_law).nd rfl (Or.inl rfl) (@pe_op _ _ _ _ _ _ _ _ op_add pe_int (@pe_cal _ _ _ _ _ _ _ _ _ _ _ C__law_draw hr (by omega) rfl (@pa_cons _ _ _ _ _ (@pv _ 2 _ _ (by rfl) (by first | exact Or.inl rfl | exact Or.inr ( Or.inl rfl ) | exact Or.inr ( Or.inr rfl )) (by decide) (by decide)) (@pa_cons _ _ _ _ _ pe_int pa_nil (by rfl)) (by rfl)) (by decide) (by rfl) (by rfl))) (by rfl) (by first | exact .inl rfl | exact .inr rfl | assumption)) (@pss_cons _ _ _ _ _ (@ps_set _ _ (7) _ _ _ _ (sc_law).nd rfl (Or.inl rfl) (@pe_cal _ _ _ _ _ _ _ _ _ _ _ C__law_way hr (by omega) rfl (@pa_cons _ _ _ _ _ (@pv _ 2 _ _ (by rfl) (by first | exact Or.inl rfl | exact Or.inr ( Or.inl rfl ) | exact Or.inr ( Or.inr rfl )) (by decide) (by decide)) (@pa_cons _ _ _ _ _ (@pe_cal _ _ _ _ _ _ _ _ _ _ _ C__law_row hr (by omega) rfl (@pa_cons _ _ _ _ _ (@pv _ 2 _ _ (by rfl) (by first | exact Or.inl rfl | exact Or.inr ( Or.inl rfl ) | exact Or.inr ( Or.inr rfl )) (by decide) (by decide)) (@pa_cons _ _ _ _ _ (@pv _ 6 _ _ (by rfl) (by first | exact Or.inl rfl | exact Or.inr ( Or.inl rfl ) | exact Or.inr ( Or.inr rfl )) (by decide) (by decide)) pa_nil (by rfl)) (by rfl)) (by decide) (by rfl) (by rfl)) (@pa_cons _ _ _ _ _ pe_str pa_nil (by rfl)) (by rfl)) (by rfl)) (by decide) (by rfl) (by rfl)) (by rfl) (by first | exact .inl rfl | exact .inr rfl | assumption)) (@pss_cons _ _ _ _ _ (@ps_set _ _ (8) _ _ _ _ (sc_law).nd rfl (Or.inl rfl) (@pe_cal _ _ _ _ _ _ _ _ _ _ _ C__law_way hr (by omega) rfl (@pa_cons _ _ _ _ _ (@pv _ 2 _ _ (by rfl) (by first | exact Or.inl rfl | exact Or.inr ( Or.inl rfl ) | exact Or.inr ( Or.inr rfl )) (by decide) (by decide)) (@pa_cons _ _ _ _ _ (@pe_cal _ _ _ _ _ _ _ _ _ _ _ C__law_row hr (by omega) rfl (@pa_cons _ _ _ _ _ (@pv _ 2 _ _ (by rfl) (by first | exact Or.inl rfl | exact Or.inr ( Or.inl rfl ) | exact Or.inr ( Or.inr rfl )) (by decide) (by decide)) (@pa_cons _ _ _ _ _ (@pe_op _ _ _ _ _ _ _ _ op_sub pe_int (@pv _ 6 _ _ (by rfl) (by first | exact Or.inl rfl | exact Or.inr ( Or.inl rfl ) | exact Or.inr ( Or.inr rfl )) (by decide) (by decide))) pa_nil (by rfl)) (by rfl)) (by decide) (by rfl) (by rfl)) (@pa_cons _ _ _ _ _ pe_str pa_nil (by rfl)) (by rfl)) (by rfl)) (by decide) (by rfl) (by rfl)) (by rfl) (by first | exact .inl rfl | exact .inr rfl | assumption)) (@pss_cons _ _ _ _ _ (@ps_set _ _ (9) _ _ _ _ (sc_law).nd rfl (Or.inl rfl) (@pe_lst _ _ _ _ (@pa_cons _ _ _ _ _ (@pe_cal _ _ _ _ _ _ _ _ _ _ _ C_worth_of hr (by omega) rfl (@pa_cons _ _ _ _ _ (@pe_tup _ _ _ _ _ (@pa_cons _ _ _ _ _ pe_str (@pa_cons _ _ _ _ _ (@pv _ 7 _ _ (by rfl) (by first | exact Or.inl rfl | exact Or.inr ( Or.inl rfl ) | exact Or.inr ( Or.inr rfl )) (by decide) (by decide)) (@pa_cons _ _ _ _ _ (@pv _ 8 _ _ (by rfl) (by first | exact Or.inl rfl | exact Or.inr ( Or.inl rfl ) | exact Or.inr ( Or.inr rfl )) (by decide) (by decide)) pa_nil (by rfl)) (by rfl)) (by rfl))) pa_nil (by rfl)) (by decide) (by rfl) (by rfl)) (@pa_cons _ _ _ _ _ (@pe_cal _ _ _ _ _ _ _ _ _ _ _ C_worth_of hr (by omega) rfl (@pa_cons _ _ _ _ _ (@pe_tup _ _ _ _ _ (@pa_cons _ _ _ _ _ pe_str (@pa_cons _ _ _ _ _ (@pv _ 7 _ _ (by rfl) (by first | exact Or.inl rfl | exact Or.inr ( Or.inl rfl ) | exact Or.inr ( Or.inr rfl )) (by decide) (by decide)) (@pa_cons _ _ _ _ _ (@pv _ 8 _ _ (by rfl) (by first | exact Or.inl rfl | exact Or.inr ( Or.inl rfl ) | exact Or.inr ( Or.inr rfl )) (by decide) (by decide)) pa_nil (by rfl)) (by rfl)) (by rfl))) pa_nil (by rfl)) (by decide) (by rfl) (by rfl)) (@pa_cons _ _ _ _ _ (@pe_cal _ _ _ _ _ _ _ _ _ _ _ C_worth_of hr (by omega) rfl (@pa_cons _ _ _ _ _ (@pe_tup _ _ _ _ _ (@pa_cons _ _ _ _ _ pe_str (@pa_cons _ _ _ _ _ (@pv _ 7 _ _ (by rfl) (by first | exact Or.inl rfl | exact Or.inr ( Or.inl rfl ) | exact Or.inr ( Or.inr rfl )) (by decide) (by decide)) (@pa_cons _ _ _ _ _ (@pv _ 8 _ _ (by rfl) (by first | exact Or.inl rfl | exact Or.inr ( Or.inl rfl ) | exact Or.inr ( Or.inr rfl )) (by decide) (by decide)) pa_nil (by rfl)) (by rfl)) (by rfl))) pa_nil (by rfl)) (by decide) (by rfl) (by rfl)) pa_nil (by rfl)) (by rfl)) (by rfl))) (by rfl) (by first | exact .inl rfl | exact .inr rfl | assumption)) (@pss_cons _ _ _ _ _ (@ps_set _ _ (10) _ _ _ _ (sc_law).nd rfl (Or.inl rfl) (@pe_cal _ _ _ _ _ _ _ _ _ _ _ C_worth_of hr (by omega) rfl (@pa_cons _ _ _ _ _ (@pv _ 7 _ _ (by rfl) (by first | exact Or.inl rfl | exact Or.inr ( Or.inl rfl ) | exact Or.inr ( Or.inr rfl )) (by decide) (by decide)) pa_nil (by rfl)) (by decide) (by rfl) (by rfl)) (by rfl) (by first | exact .inl rfl | exact .inr rfl | assumption)) (@pss_cons _ _ _ _ _ (@ps_set _ _ (11) _ _ _ _ (sc_law).nd rfl (Or.inl rfl) (@pe_cal _ _ _ _ _ _ _ _ _ _ _ C_worth_of hr (by omega) rfl (@pa_cons _ _ _ _ _ (@pv _ 8 _ _ (by rfl) (by first | exact Or.inl rfl | exact Or.inr ( Or.inl rfl ) | exact Or.inr ( Or.inr rfl )) (by decide) (by decide)) pa_nil (by rfl)) (by decide) (by rfl) (by rfl)) (by rfl) (by first | exact .inl rfl | exact .inr rfl | assumption)) (@pss_cons _ _ _ _ _ (@ps_if _ _ _ _ _ _ _ _ (@pt_cmpR _ _ _ _ _ _ _ _ (@op_neL _ hr.units) (@pv _ 9 _ _ (by rfl) (by first | exact Or.inl rfl | exact Or.inr ( Or.inl rfl ) | exact Or.inr ( Or.inr rfl )) (by decide) (by decide)) (@pe_lst _ _ _ _ (@pa_cons _ _ _ _ _ (@pe_op _ _ _ _ _ _ _ _ op_add (@pv _ 10 _ _ (by rfl) (by first | exact Or.inl rfl | exact Or.inr ( Or.inl rfl ) | exact Or.inr ( Or.inr rfl )) (by decide) (by decide)) (@pv _ 11 _ _ (by rfl) (by first | exact Or.inl rfl | exact Or.inr ( Or.inl rfl ) | exact Or.inr ( Or.inr rfl )) (by decide) (by decide))) (@pa_cons _ _ _ _ _ (@pe_op _ _ _ _ _ _ _ _ op_sub (@pv _ 10 _ _ (by rfl) (by first | exact Or.inl rfl | exact Or.inr ( Or.inl rfl ) | exact Or.inr ( Or.inr rfl )) (by decide) (by decide)) (@pv _ 11 _ _ (by rfl) (by first | exact Or.inl rfl | exact Or.inr ( Or.inl rfl ) | exact Or.inr ( Or.inr rfl )) (by decide) (by decide))) (@pa_cons _ _ _ _ _ (@pe_op _ _ _ _ _ _ _ _ op_mulB (@pv _ 10 _ _ (by rfl) (by first | exact Or.inl rfl | exact Or.inr ( Or.inl rfl ) | exact Or.inr ( Or.inr rfl )) (by decide) (by decide)) (@pv _ 11 _ _ (by rfl) (by first | exact Or.inl rfl | exact Or.inr ( Or.inl rfl ) | exact Or.inr ( Or.inr rfl )) (by decide) (by decide))) pa_nil (by rfl)) (by rfl)) (by rfl))) (nomark _)) (@pss_one _ _ _ (@ps_ret _ _ _ _ pe_bl)) pss_nil) (@pss_cons _ _ _ _ _ (@ps_set _ _ (12) _ _ _ _ (sc_law).nd rfl (Or.inl rfl) (@pe_cal _ _ _ _ _ _ _ _ _ _ _ C__law_way hr (by omega) rfl (@pa_cons _ _ _ _ _ (@pv _ 2 _ _ (by rfl) (by first | exact Or.inl rfl | exact Or.inr ( Or.inl rfl ) | exact Or.inr ( Or.inr rfl )) (by decide) (by decide)) (@pa_cons _ _ _ _ _ (@pv _ 3 _ _ (by rfl) (by first | exact Or.inl rfl | exact Or.inr ( Or.inl rfl ) | exact Or.inr ( Or.inr rfl )) (by decide) (by decide)) (@pa_cons _ _ _ _ _ pe_str pa_nil (by rfl)) (by rfl)) (by rfl)) (by decide) (by rfl) (by rfl)) (by rfl) (by first | exact .inl rfl | exact .inr rfl | assumption)) (@pss_cons _ _ _ _ _ (@ps_for _ _ _ _ _ _ _ _ PassesOwn.never rfl (@pi_range1 _ _ _ _ _ _ rfl B.irange (@pa_cons _ _ _ _ _ (@pe_callB _ _ _ _ _ _ _ _ _ call_len_seq rfl B.ilen PySem.boot_len (@pa_cons _ _ _ _ _ (@pv _ 3 _ _ (by rfl) (by first | exact Or.inl rfl | exact Or.inr ( Or.inl rfl ) | exact Or.inr ( Or.inr rfl )) (by decide) (by decide)) pa_nil (by rfl)) (by decide) (by decide) (by rfl) (by rfl)) pa_nil (by rfl)) (by rfl)) (@pg_name _ _ (13) _ (sc_law).nd rfl (Or.inl rfl) (by first | exact .inl rfl | exact .inr rfl | assumption)) (@pss_one _ _ _ (@ps_set _ _ (12) _ _ _ _ (sc_law).nd rfl (Or.inl rfl) (@pe_cal _ _ _ _ _ _ _ _ _ _ _ C_with_number hr (by omega) rfl (@pa_cons _ _ _ _ _ (@pv _ 12 _ _ (by rfl) (by first | exact Or.inl rfl | exact Or.inr ( Or.inl rfl ) | exact Or.inr ( Or.inr rfl )) (by decide) (by decide)) (@pa_cons _ _ _ _ _ (@pv _ 13 _ _ (by rfl) (by first | exact Or.inl rfl | exact Or.inr ( Or.inl rfl ) | exact Or.inr ( Or.inr rfl )) (by decide) (by decide)) (@pa_cons _ _ _ _ _ (@pe_op _ _ _ _ _ _ _ _ op_sub pe_int (@pe_ix _ _ _ _ _ _ _ ix_list (@pv _ 3 _ _ (by rfl) (by first | exact Or.inl rfl | exact Or.inr ( Or.inl rfl ) | exact Or.inr ( Or.inr rfl )) (by decide) (by decide)) (@pv _ 13 _ _ (by rfl) (by first | exact Or.inl rfl | exact Or.inr ( Or.inl rfl ) | exact Or.inr ( Or.inr rfl )) (by decide) (by decide)) (fun _ _ => rfl))) pa_nil (by rfl)) (by rfl)) (by rfl)) (by decide) (by rfl) (by rfl)) (by rfl) (by first | exact .inl rfl | exact .inr rfl | assumption))) (by intro _; rfl)) (@pss_cons _ _ _ _ _ (@ps_set _ _ (14) _ _ _ _ (sc_law).nd rfl (Or.inl rfl) (@pe_cal _ _ _ _ _ _ _ _ _ _ _ C_worth_of hr (by omega) rfl (@pa_cons _ _ _ _ _ (@pv _ 12 _ _ (by rfl) (by first | exact Or.inl rfl | exact Or.inr ( Or.inl rfl ) | exact Or.inr ( Or.inr rfl )) (by decide) (by decide)) pa_nil (by rfl)) (by decide) (by rfl) (by rfl)) (by rfl) (by first | exact .inl rfl | exact .inr rfl | assumption)) (@pss_cons _ _ _ _ _ (@ps_for _ _ _ _ _ _ _ _ PassesOwn.never rfl (@pi_range1 _ _ _ _ _ _ rfl B.irange (@pa_cons _ _ _ _ _ (@pe_callB _ _ _ _ _ _ _ _ _ call_len_seq rfl B.ilen PySem.boot_len (@pa_cons _ _ _ _ _ (@pv _ 3 _ _ (by rfl) (by first | exact Or.inl rfl | exact Or.inr ( Or.inl rfl ) | exact Or.inr ( Or.inr rfl )) (by decide) (by decide)) pa_nil (by rfl)) (by decide) (by decide) (by rfl) (by rfl)) pa_nil (by rfl)) (by rfl)) (@pg_name _ _ (13) _ (sc_law).nd rfl (Or.inl rfl) (by first | exact .inl rfl | exact .inr rfl | assumption)) (@pss_one _ _ _ (@ps_set _ _ (12) _ _ _ _ (sc_law).nd rfl (Or.inl rfl) (@pe_cal _ _ _ _ _ _ _ _ _ _ _ C_with_number hr (by omega) rfl (@pa_cons _ _ _ _ _ (@pv _ 12 _ _ (by rfl) (by first | exact Or.inl rfl | exact Or.inr ( Or.inl rfl ) | exact Or.inr ( Or.inr rfl )) (by decide) (by decide)) (@pa_cons _ _ _ _ _ (@pv _ 13 _ _ (by rfl) (by first | exact Or.inl rfl | exact Or.inr ( Or.inl rfl ) | exact Or.inr ( Or.inr rfl )) (by decide) (by decide)) (@pa_cons _ _ _ _ _ (@pe_ix _ _ _ _ _ _ _ ix_list (@pv _ 3 _ _ (by rfl) (by first | exact Or.inl rfl | exact Or.inr ( Or.inl rfl ) | exact Or.inr ( Or.inr rfl )) (by decide) (by decide)) (@pv _ 13 _ _ (by rfl) (by first | exact Or.inl rfl | exact Or.inr ( Or.inl rfl ) | exact Or.inr ( Or.inr rfl )) (by decide) (by decide)) (fun _ _ => rfl)) pa_nil (by rfl)) (by rfl)) (by rfl)) (by decide) (by rfl) (by rfl)) (by rfl) (by first | exact .inl rfl | exact .inr rfl | assumption))) (by intro _; rfl)) (@pss_cons _ _ _ _ _ (@ps_set _ _ (15) _ _ _ _ (sc_law).nd rfl (Or.inl rfl) pe_int (by rfl) (by first | exact .inl rfl | exact .inr rfl | assumption)) (@pss_cons _ _ _ _ _ (@ps_for _ _ _ _ _ _ _ _ PassesOwn.never rfl (@pi_list _ _ _ _ (@pv _ 3 _ _ (by rfl) (by first | exact Or.inl rfl | exact Or.inr ( Or.inl rfl ) | exact Or.inr ( Or.inr rfl )) (by decide) (by decide))) (@pg_name _ _ (16) _ (sc_law).nd rfl (Or.inl rfl) (by first | exact .inl rfl | exact .inr rfl | assumption)) (@pss_one _ _ _ (@ps_set _ _ (15) _ _ _ _ (sc_law).nd rfl (Or.inl rfl) (@pe_op _ _ _ _ _ _ _ _ op_mulB (@pv _ 15 _ _ (by rfl) (by first | exact Or.inl rfl | exact Or.inr ( Or.inl rfl ) | exact Or.inr ( Or.inr rfl )) (by decide) (by decide)) (@pv _ 16 _ _ (by rfl) (by first | exact Or.inl rfl | exact Or.inr ( Or.inl rfl ) | exact Or.inr ( Or.inr rfl )) (by decide) (by decide))) (by rfl) (by first | exact .inl rfl | exact .inr rfl | assumption))) (by intro _; rfl)) (@pss_one _ _ _ (@ps_if _ _ _ _ _ _ _ _ (@PW.pt _ _ _ (@pw_or _ _ _ _ _ _ _ (@pt_cmpR _ _ _ _ _ _ _ _ op_ne (@pe_cal _ _ _ _ _ _ _ _ _ _ _ C_worth_of hr (by omega) rfl (@pa_cons _ _ _ _ _ (@pv _ 12 _ _ (by rfl) (by first | exact Or.inl rfl | exact Or.inr ( Or.inl rfl ) | exact Or.inr ( Or.inr rfl )) (by decide) (by decide)) pa_nil (by rfl)) (by decide) (by rfl) (by rfl)) (@pe_op _ _ _ _ _ _ _ _ op_sub pe_int (@pv _ 14 _ _ (by rfl) (by first | exact Or.inl rfl | exact Or.inr ( Or.inl rfl ) | exact Or.inr ( Or.inr rfl )) (by decide) (by decide))) (nomark _)) (@pw_or1 _ _ _ _ (@pt_cmpR _ _ _ _ _ _ _ _ op_ne (@pe_cal _ _ _ _ _ _ _ _ _ _ _ C_worth_of hr (by omega) rfl (@pa_cons _ _ _ _ _ (@pe_cal _ _ _ _ _ _ _ _ _ _ _ C__law_way hr (by omega) rfl (@pa_cons _ _ _ _ _ (@pv _ 2 _ _ (by rfl) (by first | exact Or.inl rfl | exact Or.inr ( Or.inl rfl ) | exact Or.inr ( Or.inr rfl )) (by decide) (by decide)) (@pa_cons _ _ _ _ _ (@pv _ 3 _ _ (by rfl) (by first | exact Or.inl rfl | exact Or.inr ( Or.inl rfl ) | exact Or.inr ( Or.inr rfl )) (by decide) (by decide)) (@pa_cons _ _ _ _ _ pe_str pa_nil (by rfl)) (by rfl)) (by rfl)) (by decide) (by rfl) (by rfl)) pa_nil (by rfl)) (by decide) (by rfl) (by rfl)) (@pv _ 15 _ _ (by rfl) (by first | exact Or.inl rfl | exact Or.inr ( Or.inl rfl ) | exact Or.inr ( Or.inr rfl )) (by decide) (by decide)) (nomark _))))) (@pss_one _ _ _ (@ps_ret _ _ _ _ pe_bl)) pss_nil)))))))))))))))))))) (by intro _; rfl)) (@pss_one _ _ _ (@ps_ret _ _ _ _ pe_bl))), ?_⟩
  refine ⟨(by show 1 ≤ sizeLine; decide), fun p1 n1 => ?_⟩
  have g1 := Same.new n1 (.lst [.int 0])
  refine ⟨_, rfl, 15, rfl, a, _, rfl, g1.seq hS, fun p2 n2 => ?_⟩
  obtain ⟨ms, em, hm⟩ := cut_some ns none (some 15)
  rw [em]
  have g2 := Same.new n2 (.lst (ms.map V.int))
  refine ⟨p1, p2, _, _, rfl, rfl, g2 _ _ upd_same, upd_same, le_line (by rw [List.length_map]; show 1 + ms.length ≤ 1000; omega), fun p3 n3 => ?_⟩
  have e3 : upd (upd (upd H p1 (.lst [.int 0])) p2 (.lst (ms.map V.int))) p3 (.lst ([.int 0] ++ ms.map V.int)) p3 = _ := upd_same
  have el : [V.int 0] ++ ms.map V.int = (0 :: ms).map V.int := rfl
  rw [el] at e3 ⊢
  revert e3
  generalize upd (upd (upd H p1 (.lst [.int 0])) p2 (.lst (ms.map V.int))) p3 (.lst ((0 :: ms).map V.int)) = H3
  intro e3
  refine ⟨p3, rfl, ⟨_, SqL.of e3⟩, for_list (xs := (0 :: ms).map V.int) (fun i σ H' => ∃ c1 c2 c3 c4 c5 c6 c7 c8 c9 c10 c11 c12 c13 c14 c15 c16, σ = [some (.ref a), c1, c2, c3, c4, c5, c6, c7, c8, c9, c10, c11, c12, c13, c14, c15, c16] ∧ Same H3 H') ⟨_, _, _, _, _, _, _, _, _, _, _, _, _, _, _, _, rfl, Same.refl _⟩ ?_ ?_ ?_⟩
  · rintro i σ H' _ ⟨_, _, _, _, _, _, _, _, _, _, _, _, _, _, _, _, rfl, S⟩
    exact SqL.of (S _ _ e3)
  · rintro i x σ H' hx ⟨c1, c2, c3, c4, c5, c6, c7, c8, c9, c10, c11, c12, c13, c14, c15, c16, rfl, S⟩
    rw [List.getElem?_map] at hx
    obtain ⟨c, _, rfl⟩ := Option.map_eq_some_iff.mp hx
    refine ⟨_, rfl, c, rfl, fun wl ca cb H4 g4 nw ew => ?_⟩
    have nwl : H3 wl = none := S.free nw
    have w4 : Wel H4 wl 0 := ⟨ca, cb, 0, ew, by omega, by omega⟩
    refine ⟨_, rfl, _, rfl, wl, 9, _, rfl, by decide, by decide, w4, by omega, fun r1 H6 a1 b1 k6 w6 => ⟨_, _, rfl, rfl, ?_⟩⟩
    refine ⟨wl, 1 + r1, _, rfl, by omega, by omega, w6, by omega, fun pr rs H7 k7 w7 nr er hlen hsm => ?_⟩
    refine ⟨_, rfl, _, rfl, _, rfl, wl, _, rfl, w7, by omega, fun gs H8 gl1 gl3 k8 w8 => ?_⟩
    have nrw : pr ≠ wl := w6.ne nr
    have er8 := k8 _ _ nrw er
    refine ⟨wl, pr, gs, rs, _, rfl, er8, nrw, by omega, by omega, by omega, gl1, gl3, w8, by omega, fun v wy H9 iw en wi k9 w9 => ?_⟩
    have er9 := k9 _ _ nrw er8
    have sz : wy.size = rs.length := by rw [← wy.nums_len, en]
    have hB := numsBd hsm en
    have rl : (rs.map V.int).length = rs.length := List.length_map _
    have S9 : Same H3 H9 := But.same (S.trans g4) nwl (((k6.trans k7).trans k8).trans k9)
    -- the worths of the parts
    refine ⟨_, rfl, wy, v, rfl, iw, by omega, hB, fun pd H10 g10 n10 e10 => ?_⟩
    refine ⟨_, rfl, wy, v, rfl, iw.mono (Tups.of g10), by omega, hB, fun H11 g11 => ?_⟩
    have e11 := g11 _ _ e10
    have er11 := (g10.trans g11) _ _ er9
    refine ⟨_, rfl, pd, rfl, .inr ⟨_, .inl e11⟩, _, rfl, pr, _, rfl, .inl (SqL.of er11), _, _, rfl, rfl, (by show 2 ≤ sizeLine; decide), fun b12 nb12 => ?_⟩
    have g12 := Same.new nb12 (.tup [.int 0, .int (((rs.map V.int).length : Int) - 1)])
    have vt : valV (wy.pwl 0) (k2 0 (((rs.map V.int).length : Int) - 1)) = some (.int wy.worth) := by
      have := val_mem (wy.pwl_nodup 0) (wy.pwl_mem 0)
      rw [rl, ← sz, show ((wy.size : Nat) : Int) - 1 = 0 + wy.size - 1 by omega]; exact this
    refine ⟨some (.int wy.worth), by rw [← vt]; exact DGet.t (g12 _ _ e11) (k := k2 0 (((rs.map V.int).length : Int) - 1)) upd_same, rfl, _, rfl, iteNS rfl ?_⟩
    have G12 := (g10.trans g11).trans g12
    have w12 := w9.keep G12 (Int.le_refl _)
    refine ⟨_, rfl, _, rfl, _, rfl, wl, wy, v, pd, _, rfl, iw.mono (Tups.of G12), by omega, hB, g12 _ _ e11, w12, by omega, fun H13 k13 w13 => ⟨true, rfl, iteF ?_⟩⟩
    have er13 := k13 _ _ nrw (G12 _ _ er9)
    have S13 : Same H3 H13 := But.same (S9.trans G12) nwl k13
    -- three worths of two ways
    refine ⟨_, rfl, wl, 8, _, rfl, by decide, by decide, w13, by omega, fun r2 H14 a2 b2 k14 w14 => ⟨_, _, rfl, rfl, ?_⟩⟩
    refine ⟨_, rfl, _, rfl, _, rfl, wl, 1 + r2, _, rfl, by omega, by omega, w14, by omega, fun p1 rs1 H15 k15 w15 n1 e1 l1 s1 => ?_⟩
    refine ⟨wl, p1, [.plus, .minus, .times], rs1, _, rfl, e1, w14.ne n1, by omega, by omega, by omega, by decide, by decide, w15, by omega, fun v1 x1 H16 i1 m1 wi1 k16 w16 => ?_⟩
    refine ⟨_, rfl, _, rfl, _, rfl, _, _, rfl, rfl, wl, 9 - (1 + r2), _, rfl, by omega, by omega, w16, by omega, fun p2 rs2 H17 k17 w17 n2 e2 l2 s2 => ?_⟩
    refine ⟨wl, p2, [.plus, .minus, .times], rs2, _, rfl, e2, w16.ne n2, by omega, by omega, by omega, by decide, by decide, w17, by omega, fun v2 x2 H18 i2 m2 wi2 k18 w18 => ?_⟩
    have k1318 := (((k14.trans k15).trans k16).trans k17).trans k18
    have S18 : Same H3 H18 := But.same S13 nwl k1318
    have er18 := k1318 _ _ nrw er13
    have i1 := i1.mono ((w16.tups k17).trans (w17.tups k18))
    have z1 : x1.size = rs1.length := by rw [← x1.nums_len, m1]
    have z2 : x2.size = rs2.length := by rw [← x2.nums_len, m2]
    have B1 := numsBd s1 m1
    have B2 := numsBd s2 m2
    have zz : ∀ g, (Wy.node g x1 x2).size ≤ 9 := fun g => by show x1.size + x2.size ≤ 9; omega
    have BB : ∀ g, (Wy.node g x1 x2).Bd := fun g i hi => (List.mem_append.mp hi).elim (B1 i) (B2 i)
    refine ⟨_, rfl, _, rfl, (by show 3 ≤ sizeLine; decide), fun t1 nt1 => ?_⟩
    have h1 := Same.new nt1 (.tup [.str "+", v1, v2])
    refine ⟨.node .plus x1 x2, _, rfl, ⟨t1, v1, v2, rfl, upd_same, i1.mono (Tups.of h1), i2.mono (Tups.of h1)⟩, zz _, BB _, fun H19 g19 => ?_⟩
    have G19 := h1.trans g19
    refine ⟨_, rfl, _, rfl, (by show 3 ≤ sizeLine; decide), fun t2 nt2 => ?_⟩
    have h2 := Same.new nt2 (.tup [.str "-", v1, v2])
    have G19' := G19.trans h2
    refine ⟨.node .minus x1 x2, _, rfl, ⟨t2, v1, v2, rfl, upd_same, i1.mono (Tups.of G19'), i2.mono (Tups.of G19')⟩, zz _, BB _, fun H20 g20 => ?_⟩
    have G20 := G19'.trans g20
    refine ⟨_, rfl, _, rfl, (by show 3 ≤ sizeLine; decide), fun t3 nt3 => ?_⟩
    have h3 := Same.new nt3 (.tup [.str "*", v1, v2])
    have G20' := G20.trans h3
    refine ⟨.node .times x1 x2, _, rfl, ⟨t3, v1, v2, rfl, upd_same, i1.mono (Tups.of G20'), i2.mono (Tups.of G20')⟩, zz _, BB _, fun H21 g21 => ?_⟩
    have G21 := G20'.trans g21
    refine ⟨(by show 3 ≤ sizeLine; decide), fun pb nb => ?_⟩
    have h4 := Same.new nb (.lst [.int (Wy.node .plus x1 x2).worth, .int (Wy.node .minus x1 x2).worth, .int (Wy.node .times x1 x2).worth])
    have eb : upd H21 pb (.lst [.int (Wy.node .plus x1 x2).worth, .int (Wy.node .minus x1 x2).worth, .int (Wy.node .times x1 x2).worth]) pb = some (.lst [.int (x1.worth + x2.worth), .int (x1.worth - x2.worth), .int (x1.worth * x2.worth)]) := upd_same
    have G22 := G21.trans h4
    refine ⟨_, rfl, x1, v1, rfl, i1.mono (Tups.of G22), by omega, B1, fun H23 g23 => ?_⟩
    refine ⟨_, rfl, x2, v2, rfl, i2.mono (Tups.of (G22.trans g23)), by omega, B2, fun H24 g24 => ?_⟩
    have eb24 := (g23.trans g24) _ _ eb
    refine ⟨_, rfl, _, rfl, _, rfl, _, _, rfl, rfl, _, rfl, _, rfl, _, _, rfl, rfl, _, rfl, _, rfl, _, _, rfl, rfl, ⟨big (x1.worth_bd B1) (by omega), big (x2.worth_bd B2) (by omega)⟩, (by show 3 ≤ sizeLine; decide), fun pc nc => ?_⟩
    have h5 := Same.new nc (.lst [.int (x1.worth + x2.worth), .int (x1.worth - x2.worth), .int (x1.worth * x2.worth)])
    refine same_all (SqL.of (h5 _ _ eb24)) (SqL.of upd_same) (fun x hx => by simp only [List.mem_cons, List.not_mem_nil, or_false] at hx; rcases hx with rfl | rfl | rfl <;> rfl) ⟨false, rfl, iteF ?_⟩
    have G25 := ((G22.trans g23).trans g24).trans h5
    revert G25
    generalize upd H24 pc (.lst [.int (x1.worth + x2.worth), .int (x1.worth - x2.worth), .int (x1.worth * x2.worth)]) = H25
    intro G25
    have S25 := S18.trans G25
    have er25 := G25 _ _ er18
    have w25 := w18.keep G25 (Int.le_refl _)
    -- sums
    refine ⟨_, rfl, _, rfl, wl, pr, [.plus, .minus], rs, _, rfl, er25, nrw, by omega, by omega, by omega, by decide, by decide, w25, by omega, fun v3 x3 H26 i3 m3 wi3 k26 w26 => ?_⟩
    have S26 : Same H3 H26 := But.same S25 nwl k26
    have er26 := k26 _ _ nrw er25
    have z3 : x3.size = rs.length := by rw [← x3.nums_len, m3]
    have ln : (rs.map (0 - ·)).length = rs.length := List.length_map _
    refine ⟨_, rfl, pr, _, rfl, .inl (SqL.of er26), _, rfl, by rw [rl]; omega, by rw [rl]; omega, ?_⟩
    rw [rl]
    refine for_range (n := rs.length) (fun i σ H' => ∃ cur u pl, σ = [some (.ref a), some (.int c), some (.ref wl), some (.ref pr), some v, some (.ref pd), some (.int (1 + r2)), some v1, some v2, some (.ref pb), some (.int x1.worth), some (.int x2.worth), some u, pl, c14, c15, c16] ∧ Same H26 H' ∧ WyIn H' cur u ∧ cur.shape = x3.shape ∧ cur.nums = (rs.map (0 - ·)).take i ++ rs.drop i)
      ⟨x3, v3, _, rfl, Same.refl _, i3, rfl, by rw [m3]; rfl⟩ ?_ ?_
    · rintro j σ H27 hj ⟨cur, u, pl, rfl, S27, iu, sh, nu⟩
      have zc : cur.size = rs.length := by rw [← cur.shape_size, sh, x3.shape_size, z3]
      obtain ⟨x, hx⟩ : ∃ x, rs[j]? = some x := ⟨_, List.getElem?_eq_getElem hj⟩
      have er27 := S27 _ _ er26
      refine ⟨_, rfl, _, rfl, _, rfl, _, rfl, pr, _, _, .int x, rfl, rfl, SqL.of er27, by rw [Int.zero_add]; exact atI_nat (by rw [List.getElem?_map, hx]; rfl), _, _, rfl, rfl, ?_⟩
      refine ⟨cur, u, 0 + j, 0 - x, rfl, iu, by omega, by omega, by omega, fun u2 H28 g28 i28 => ?_⟩
      rw [Int.zero_add] at i28
      refine ⟨_, u2, _, rfl, S27.trans g28, i28, by rw [cur.put_shape, sh], ?_⟩
      rw [cur.put_set j _ (by omega), nu]
      exact set_step (by rw [ln]) (by rw [List.getElem?_map, hx]; rfl)
    rintro σ H27 ⟨cur, u, pl, rfl, S27, iu, sh, nu⟩
    have nu : cur.nums = rs.map (0 - ·) := by rw [nu, List.drop_length, List.append_nil, List.take_of_length_le (by rw [ln]; exact Nat.le_refl _)]
    have ec : cur = x3.neg := Wy.shape_eq _ _ (by rw [sh, x3.neg_shape]) (by rw [nu, x3.neg_nums, m3])
    have wneg : cur.worth = 0 - x3.worth := by rw [ec]; exact x3.neg_worth wi3
    have zc : cur.size = rs.length := by rw [← cur.shape_size, sh, x3.shape_size, z3]
    refine ⟨_, rfl, cur, u, rfl, iu, by omega, numsBd (small_neg hsm) nu, fun H28 g28 => ?_⟩
    have S28 := S27.trans g28
    have er28 := S28 _ _ er26
    have iu28 := iu.mono (Tups.of g28)
    rw [wneg]
    -- back again
    refine ⟨_, rfl, pr, _, rfl, .inl (SqL.of er28), _, rfl, by rw [rl]; omega, by rw [rl]; omega, ?_⟩
    rw [rl]
    refine for_range (n := rs.length) (fun i σ H' => ∃ cur u pl, σ = [some (.ref a), some (.int c), some (.ref wl), some (.ref pr), some v, some (.ref pd), some (.int (1 + r2)), some v1, some v2, some (.ref pb), some (.int x1.worth), some (.int x2.worth), some u, pl, some (.int (0 - x3.worth)), c15, c16] ∧ Same H26 H' ∧ WyIn H' cur u ∧ cur.shape = x3.shape ∧ cur.nums = rs.take i ++ (rs.map (0 - ·)).drop i)
      ⟨cur, u, _, rfl, S28, iu28, sh, by rw [nu]; rfl⟩ ?_ ?_
    · rintro j σ H29 hj ⟨cur, u, pl, rfl, S29, iu, sh, nu⟩
      have zc : cur.size = rs.length := by rw [← cur.shape_size, sh, x3.shape_size, z3]
      obtain ⟨x, hx⟩ : ∃ x, rs[j]? = some x := ⟨_, List.getElem?_eq_getElem hj⟩
      have er29 := S29 _ _ er26
      refine ⟨_, rfl, _, rfl, _, rfl, _, rfl, pr, _, _, .int x, rfl, rfl, SqL.of er29, by rw [Int.zero_add]; exact atI_nat (by rw [List.getElem?_map, hx]; rfl), ?_⟩
      refine ⟨cur, u, 0 + j, x, rfl, iu, by omega, by omega, by omega, fun u2 H30 g30 i30 => ?_⟩
      rw [Int.zero_add] at i30
      refine ⟨_, u2, _, rfl, S29.trans g30, i30, by rw [cur.put_shape, sh], ?_⟩
      rw [cur.put_set j _ (by omega), nu]
      exact set_step (by rw [ln]) hx
    rintro σ H29 ⟨cur2, u2, pl2, rfl, S29, iu2, sh2, nu2⟩
    have nu2 : cur2.nums = rs := by rw [nu2, List.take_length, List.drop_of_length_le (by rw [ln]; exact Nat.le_refl _), List.append_nil]
    have ec2 : cur2 = x3 := Wy.shape_eq _ _ sh2 (by rw [nu2, m3])
    subst ec2
    have er29 := S29 _ _ er26
    -- the product
    refine ⟨_, rfl, pr, rfl, ⟨_, SqL.of er29⟩, for_list (xs := rs.map V.int) (fun i σ H' => ∃ nm, σ = [some (.ref a), some (.int c), some (.ref wl), some (.ref pr), some v, some (.ref pd), some (.int (1 + r2)), some v1, some v2, some (.ref pb), some (.int x1.worth), some (.int x2.worth), some u2, pl2, some (.int (0 - cur2.worth)), some (.int (prodI (rs.take i))), nm] ∧ H' = H29) ⟨_, rfl, rfl⟩ ?_ ?_ ?_⟩
    · rintro j σ H' _ ⟨_, rfl, rfl⟩
      exact SqL.of er29
    · rintro j x σ H' hx ⟨nm, rfl, rfl⟩
      rw [List.getElem?_map] at hx
      obtain ⟨y, hy, rfl⟩ := Option.map_eq_some_iff.mp hx
      have hj : j < rs.length := (List.getElem?_eq_some_iff.mp hy).1
      have bdr : ∀ i ∈ rs, i.natAbs < 2 ^ 131 := fun i hi => by
        have := hsm i hi
        have z : (1000000000000 : Nat) < 2 ^ 131 := by decide
        omega
      have pb1 := prodI_bd (rs.take j) fun i hi => bdr i (List.mem_of_mem_take hi)
      rw [List.length_take] at pb1
      have e : prodI (rs.take (j + 1)) = prodI (rs.take j) * y := by
        rw [List.take_succ, hy, prodI_app]
        show prodI (rs.take j) * (y * 1) = _
        rw [Int.mul_one]
      refine ⟨_, rfl, _, rfl, _, _, rfl, rfl, ⟨up_bd pb1 (by omega), up_bd (bdr y (List.mem_of_getElem? hy)) (by decide)⟩, some (.int y), ?_, rfl⟩
      rw [e]; rfl
    rintro σ H' ⟨nm, rfl, rfl⟩
    rw [rl, List.take_length]
    have w29 := w26.keep S29 (Int.le_refl _)
    refine ⟨_, rfl, cur2, u2, rfl, iu2, by omega, numsBd hsm nu2, fun H30 g30 => ?_⟩
    refine ⟨_, rfl, _, _, rfl, rfl, rfl, _, rfl, iteNS (congrArg V.int (by omega)) ?_⟩
    have w30 := w29.keep g30 (Int.le_refl _)
    refine ⟨_, rfl, _, rfl, wl, pr, [.times], rs, _, rfl, g30 _ _ er29, nrw, by omega, by omega, by omega, by decide, by decide, w30, by omega, fun v4 x4 H31 i4 m4 wi4 k31 w31 => ?_⟩
    have z4 : x4.size = rs.length := by rw [← x4.nums_len, m4]
    refine ⟨x4, v4, rfl, i4, by omega, numsBd hsm m4, fun H32 g32 => ?_⟩
    refine ⟨_, rfl, rfl, _, rfl, iteNS (congrArg V.int (by rw [x4.prod_worth wi4, m4])) ?_⟩
    exact ⟨_, _, _, _, _, _, _, _, _, _, _, _, _, _, _, _, rfl, (But.same ((S26.trans S29).trans g30) nwl k31).trans g32⟩
  · rintro σ H4 ⟨c1, c2, c3, c4, c5, c6, c7, c8, c9, c10, c11, c12, c13, c14, c15, c16, rfl, S4⟩
    exact q _
end
end Put

set_option Elab.async false
set_option linter.all false
set_option maxRecDepth 100000
set_option maxHeartbeats 4000000
namespace Put
open PySem L2
theorem all_mk {l : PySem.W.OpenLaw} {w : World} {K : PySem.W.Frag} {h : Heap} {mg : Str → Option Value} {fa : Addr} (X : K.In h) (G : h.Ns mainGlobals mg) (hfa : mg "law" = some (.ref fa))
    {tM tS1 tS2 tS3 : Tok} {aS : Addr} {odS : Option Addr} {nS : Nat} {slS : Array (Option Value)}
{od0 an0 : Option Addr} {sl0 : Array (Option Value)} {oc0 kV0 dc0 pm0 cd0 ct0 : Value} {f0 : Addr}
{od1 an1 : Option Addr} {sl1 : Array (Option Value)} {oc1 kV1 dc1 pm1 cd1 ct1 : Value} {f1 : Addr}
{od2 an2 : Option Addr} {sl2 : Array (Option Value)} {oc2 kV2 dc2 pm2 cd2 ct2 : Value} {f2 : Addr}
{od3 an3 : Option Addr} {sl3 : Array (Option Value)} {oc3 kV3 dc3 pm3 cd3 ct3 : Value} {f3 : Addr}
{od4 an4 : Option Addr} {sl4 : Array (Option Value)} {oc4 kV4 dc4 pm4 cd4 ct4 : Value} {f4 : Addr}
{od5 an5 : Option Addr} {sl5 : Array (Option Value)} {oc5 kV5 dc5 pm5 cd5 ct5 : Value} {f5 : Addr}
{od6 an6 : Option Addr} {sl6 : Array (Option Value)} {oc6 kV6 dc6 pm6 cd6 ct6 : Value} {f6 : Addr}
{od7 an7 : Option Addr} {sl7 : Array (Option Value)} {oc7 kV7 dc7 pm7 cd7 ct7 : Value} {f7 : Addr}
{od8 an8 : Option Addr} {sl8 : Array (Option Value)} {oc8 kV8 dc8 pm8 cd8 ct8 : Value} {f8 : Addr}
{od9 an9 : Option Addr} {sl9 : Array (Option Value)} {oc9 kV9 dc9 pm9 cd9 ct9 : Value} {f9 : Addr}
{od10 an10 : Option Addr} {sl10 : Array (Option Value)} {oc10 kV10 dc10 pm10 cd10 ct10 : Value} {f10 : Addr}
{od11 an11 : Option Addr} {sl11 : Array (Option Value)} {oc11 kV11 dc11 pm11 cd11 ct11 : Value} {f11 : Addr}
{od12 an12 : Option Addr} {sl12 : Array (Option Value)} {oc12 kV12 dc12 pm12 cd12 ct12 : Value} {f12 : Addr}
{od13 an13 : Option Addr} {sl13 : Array (Option Value)} {oc13 kV13 dc13 pm13 cd13 ct13 : Value} {f13 : Addr}
{od14 an14 : Option Addr} {sl14 : Array (Option Value)} {oc14 kV14 dc14 pm14 cd14 ct14 : Value} {f14 : Addr}
{od15 an15 : Option Addr} {sl15 : Array (Option Value)} {oc15 kV15 dc15 pm15 cd15 ct15 : Value} {f15 : Addr}
{od16 an16 : Option Addr} {sl16 : Array (Option Value)} {oc16 kV16 dc16 pm16 cd16 ct16 : Value} {f16 : Addr}
{od17 an17 : Option Addr} {sl17 : Array (Option Value)} {oc17 kV17 dc17 pm17 cd17 ct17 : Value} {f17 : Addr}
{od18 an18 : Option Addr} {sl18 : Array (Option Value)} {oc18 kV18 dc18 pm18 cd18 ct18 : Value} {f18 : Addr}
{od19 an19 : Option Addr} {sl19 : Array (Option Value)} {oc19 kV19 dc19 pm19 cd19 ct19 : Value} {f19 : Addr}
{od20 an20 : Option Addr} {sl20 : Array (Option Value)} {oc20 kV20 dc20 pm20 cd20 ct20 : Value} {f20 : Addr}
{od21 an21 : Option Addr} {sl21 : Array (Option Value)} {oc21 kV21 dc21 pm21 cd21 ct21 : Value} {f21 : Addr}
{od22 an22 : Option Addr} {sl22 : Array (Option Value)} {oc22 kV22 dc22 pm22 cd22 ct22 : Value} {f22 : Addr}
{od23 an23 : Option Addr} {sl23 : Array (Option Value)} {oc23 kV23 dc23 pm23 cd23 ct23 : Value} {f23 : Addr}
{od24 an24 : Option Addr} {sl24 : Array (Option Value)} {oc24 kV24 dc24 pm24 cd24 ct24 : Value} {f24 : Addr}
{od25 an25 : Option Addr} {sl25 : Array (Option Value)} {oc25 kV25 dc25 pm25 cd25 ct25 : Value} {f25 : Addr}
{od26 an26 : Option Addr} {sl26 : Array (Option Value)} {oc26 kV26 dc26 pm26 cd26 ct26 : Value} {f26 : Addr}
{od27 an27 : Option Addr} {sl27 : Array (Option Value)} {oc27 kV27 dc27 pm27 cd27 ct27 : Value} {f27 : Addr}
{od28 an28 : Option Addr} {sl28 : Array (Option Value)} {oc28 kV28 dc28 pm28 cd28 ct28 : Value} {f28 : Addr}
    (a0 : PySem.W.nsIn K mainGlobals "is_whole" = some (some (.ref f0))) (l0 : K.lookup f0 = some ⟨oc0, od0, .func (PySem.W.fnOf "is_whole" "is_whole" (defArgs s_is_whole) (defBody s_is_whole) (defScope s_is_whole) .none kV0 dc0 pm0 an0 cd0 ct0), sl0⟩) (c0 : PySem.W.codeIn K cd0 "is_whole" = true) (k0 : PySem.W.keepIn K (.ref f0) = true)
    (a1 : PySem.W.nsIn K mainGlobals "is_sign" = some (some (.ref f1))) (l1 : K.lookup f1 = some ⟨oc1, od1, .func (PySem.W.fnOf "is_sign" "is_sign" (defArgs s_is_sign) (defBody s_is_sign) (defScope s_is_sign) .none kV1 dc1 pm1 an1 cd1 ct1), sl1⟩) (c1 : PySem.W.codeIn K cd1 "is_sign" = true) (k1 : PySem.W.keepIn K (.ref f1) = true)
    (a2 : PySem.W.nsIn K mainGlobals "is_way" = some (some (.ref f2))) (l2 : K.lookup f2 = some ⟨oc2, od2, .func (PySem.W.fnOf "is_way" "is_way" (defArgs s_is_way) (defBody s_is_way) (defScope s_is_way) .none kV2 dc2 pm2 an2 cd2 ct2), sl2⟩) (c2 : PySem.W.codeIn K cd2 "is_way" = true) (k2 : PySem.W.keepIn K (.ref f2) = true)
    (a3 : PySem.W.nsIn K mainGlobals "need_way" = some (some (.ref f3))) (l3 : K.lookup f3 = some ⟨oc3, od3, .func (PySem.W.fnOf "need_way" "need_way" (defArgs s_need_way) (defBody s_need_way) (defScope s_need_way) .none kV3 dc3 pm3 an3 cd3 ct3), sl3⟩) (c3 : PySem.W.codeIn K cd3 "need_way" = true) (k3 : PySem.W.keepIn K (.ref f3) = true)
    (a4 : PySem.W.nsIn K mainGlobals "need_whole" = some (some (.ref f4))) (l4 : K.lookup f4 = some ⟨oc4, od4, .func (PySem.W.fnOf "need_whole" "need_whole" (defArgs s_need_whole) (defBody s_need_whole) (defScope s_need_whole) .none kV4 dc4 pm4 an4 cd4 ct4), sl4⟩) (c4 : PySem.W.codeIn K cd4 "need_whole" = true) (k4 : PySem.W.keepIn K (.ref f4) = true)
    (a5 : PySem.W.nsIn K mainGlobals "numbers_of" = some (some (.ref f5))) (l5 : K.lookup f5 = some ⟨oc5, od5, .func (PySem.W.fnOf "numbers_of" "numbers_of" (defArgs s_numbers_of) (defBody s_numbers_of) (defScope s_numbers_of) .none kV5 dc5 pm5 an5 cd5 ct5), sl5⟩) (c5 : PySem.W.codeIn K cd5 "numbers_of" = true) (k5 : PySem.W.keepIn K (.ref f5) = true)
    (a6 : PySem.W.nsIn K mainGlobals "list_numbers" = some (some (.ref f6))) (l6 : K.lookup f6 = some ⟨oc6, od6, .func (PySem.W.fnOf "list_numbers" "list_numbers" (defArgs s_list_numbers) (defBody s_list_numbers) (defScope s_list_numbers) .none kV6 dc6 pm6 an6 cd6 ct6), sl6⟩) (c6 : PySem.W.codeIn K cd6 "list_numbers" = true) (k6 : PySem.W.keepIn K (.ref f6) = true)
    (a7 : PySem.W.nsIn K mainGlobals "stretches_of" = some (some (.ref f7))) (l7 : K.lookup f7 = some ⟨oc7, od7, .func (PySem.W.fnOf "stretches_of" "stretches_of" (defArgs s_stretches_of) (defBody s_stretches_of) (defScope s_stretches_of) .none kV7 dc7 pm7 an7 cd7 ct7), sl7⟩) (c7 : PySem.W.codeIn K cd7 "stretches_of" = true) (k7 : PySem.W.keepIn K (.ref f7) = true)
    (a8 : PySem.W.nsIn K mainGlobals "list_stretches" = some (some (.ref f8))) (l8 : K.lookup f8 = some ⟨oc8, od8, .func (PySem.W.fnOf "list_stretches" "list_stretches" (defArgs s_list_stretches) (defBody s_list_stretches) (defScope s_list_stretches) .none kV8 dc8 pm8 an8 cd8 ct8), sl8⟩) (c8 : PySem.W.codeIn K cd8 "list_stretches" = true) (k8 : PySem.W.keepIn K (.ref f8) = true)
    (a9 : PySem.W.nsIn K mainGlobals "worth_of" = some (some (.ref f9))) (l9 : K.lookup f9 = some ⟨oc9, od9, .func (PySem.W.fnOf "worth_of" "worth_of" (defArgs s_worth_of) (defBody s_worth_of) (defScope s_worth_of) .none kV9 dc9 pm9 an9 cd9 ct9), sl9⟩) (c9 : PySem.W.codeIn K cd9 "worth_of" = true) (k9 : PySem.W.keepIn K (.ref f9) = true)
    (a10 : PySem.W.nsIn K mainGlobals "part_worths" = some (some (.ref f10))) (l10 : K.lookup f10 = some ⟨oc10, od10, .func (PySem.W.fnOf "part_worths" "part_worths" (defArgs s_part_worths) (defBody s_part_worths) (defScope s_part_worths) .none kV10 dc10 pm10 an10 cd10 ct10), sl10⟩) (c10 : PySem.W.codeIn K cd10 "part_worths" = true) (k10 : PySem.W.keepIn K (.ref f10) = true)
    (a11 : PySem.W.nsIn K mainGlobals "hangs_by" = some (some (.ref f11))) (l11 : K.lookup f11 = some ⟨oc11, od11, .func (PySem.W.fnOf "hangs_by" "hangs_by" (defArgs s_hangs_by) (defBody s_hangs_by) (defScope s_hangs_by) .none kV11 dc11 pm11 an11 cd11 ct11), sl11⟩) (c11 : PySem.W.codeIn K cd11 "hangs_by" = true) (k11 : PySem.W.keepIn K (.ref f11) = true)
    (a12 : PySem.W.nsIn K mainGlobals "with_number" = some (some (.ref f12))) (l12 : K.lookup f12 = some ⟨oc12, od12, .func (PySem.W.fnOf "with_number" "with_number" (defArgs s_with_number) (defBody s_with_number) (defScope s_with_number) .none kV12 dc12 pm12 an12 cd12 ct12), sl12⟩) (c12 : PySem.W.codeIn K cd12 "with_number" = true) (k12 : PySem.W.keepIn K (.ref f12) = true)
    (a13 : PySem.W.nsIn K mainGlobals "need_place" = some (some (.ref f13))) (l13 : K.lookup f13 = some ⟨oc13, od13, .func (PySem.W.fnOf "need_place" "need_place" (defArgs s_need_place) (defBody s_need_place) (defScope s_need_place) .none kV13 dc13 pm13 an13 cd13 ct13), sl13⟩) (c13 : PySem.W.codeIn K cd13 "need_place" = true) (k13 : PySem.W.keepIn K (.ref f13) = true)
    (a14 : PySem.W.nsIn K mainGlobals "put_sign" = some (some (.ref f14))) (l14 : K.lookup f14 = some ⟨oc14, od14, .func (PySem.W.fnOf "put_sign" "put_sign" (defArgs s_put_sign) (defBody s_put_sign) (defScope s_put_sign) .none kV14 dc14 pm14 an14 cd14 ct14), sl14⟩) (c14 : PySem.W.codeIn K cd14 "put_sign" = true) (k14 : PySem.W.keepIn K (.ref f14) = true)
    (a15 : PySem.W.nsIn K mainGlobals "find_worth" = some (some (.ref f15))) (l15 : K.lookup f15 = some ⟨oc15, od15, .func (PySem.W.fnOf "find_worth" "find_worth" (defArgs s_find_worth) (defBody s_find_worth) (defScope s_find_worth) .none kV15 dc15 pm15 an15 cd15 ct15), sl15⟩) (c15 : PySem.W.codeIn K cd15 "find_worth" = true) (k15 : PySem.W.keepIn K (.ref f15) = true)
    (a16 : PySem.W.nsIn K mainGlobals "worths_by_stretch" = some (some (.ref f16))) (l16 : K.lookup f16 = some ⟨oc16, od16, .func (PySem.W.fnOf "worths_by_stretch" "worths_by_stretch" (defArgs s_worths_by_stretch) (defBody s_worths_by_stretch) (defScope s_worths_by_stretch) .none kV16 dc16 pm16 an16 cd16 ct16), sl16⟩) (c16 : PySem.W.codeIn K cd16 "worths_by_stretch" = true) (k16 : PySem.W.keepIn K (.ref f16) = true)
    (a17 : PySem.W.nsIn K mainGlobals "times_and_plus" = some (some (.ref f17))) (l17 : K.lookup f17 = some ⟨oc17, od17, .func (PySem.W.fnOf "times_and_plus" "times_and_plus" (defArgs s_times_and_plus) (defBody s_times_and_plus) (defScope s_times_and_plus) .none kV17 dc17 pm17 an17 cd17 ct17), sl17⟩) (c17 : PySem.W.codeIn K cd17 "times_and_plus" = true) (k17 : PySem.W.keepIn K (.ref f17) = true)
    (a18 : PySem.W.nsIn K mainGlobals "put_number" = some (some (.ref f18))) (l18 : K.lookup f18 = some ⟨oc18, od18, .func (PySem.W.fnOf "put_number" "put_number" (defArgs s_put_number) (defBody s_put_number) (defScope s_put_number) .none kV18 dc18 pm18 an18 cd18 ct18), sl18⟩) (c18 : PySem.W.codeIn K cd18 "put_number" = true) (k18 : PySem.W.keepIn K (.ref f18) = true)
    (a19 : PySem.W.nsIn K mainGlobals "_law_mixed" = some (some (.ref f19))) (l19 : K.lookup f19 = some ⟨oc19, od19, .func (PySem.W.fnOf "_law_mixed" "_law_mixed" (defArgs s__law_mixed) (defBody s__law_mixed) (defScope s__law_mixed) .none kV19 dc19 pm19 an19 cd19 ct19), sl19⟩) (c19 : PySem.W.codeIn K cd19 "_law_mixed" = true) (k19 : PySem.W.keepIn K (.ref f19) = true)
    (a20 : PySem.W.nsIn K mainGlobals "_law_well" = some (some (.ref f20))) (l20 : K.lookup f20 = some ⟨oc20, od20, .func (PySem.W.fnOf "_law_well" "_law_well" (defArgs s__law_well) (defBody s__law_well) (defScope s__law_well) .none kV20 dc20 pm20 an20 cd20 ct20), sl20⟩) (c20 : PySem.W.codeIn K cd20 "_law_well" = true) (k20 : PySem.W.keepIn K (.ref f20) = true)
    (a21 : PySem.W.nsIn K mainGlobals "_law_draw" = some (some (.ref f21))) (l21 : K.lookup f21 = some ⟨oc21, od21, .func (PySem.W.fnOf "_law_draw" "_law_draw" (defArgs s__law_draw) (defBody s__law_draw) (defScope s__law_draw) .none kV21 dc21 pm21 an21 cd21 ct21), sl21⟩) (c21 : PySem.W.codeIn K cd21 "_law_draw" = true) (k21 : PySem.W.keepIn K (.ref f21) = true)
    (a22 : PySem.W.nsIn K mainGlobals "_law_number" = some (some (.ref f22))) (l22 : K.lookup f22 = some ⟨oc22, od22, .func (PySem.W.fnOf "_law_number" "_law_number" (defArgs s__law_number) (defBody s__law_number) (defScope s__law_number) .none kV22 dc22 pm22 an22 cd22 ct22), sl22⟩) (c22 : PySem.W.codeIn K cd22 "_law_number" = true) (k22 : PySem.W.keepIn K (.ref f22) = true)
    (a23 : PySem.W.nsIn K mainGlobals "_law_row" = some (some (.ref f23))) (l23 : K.lookup f23 = some ⟨oc23, od23, .func (PySem.W.fnOf "_law_row" "_law_row" (defArgs s__law_row) (defBody s__law_row) (defScope s__law_row) .none kV23 dc23 pm23 an23 cd23 ct23), sl23⟩) (c23 : PySem.W.codeIn K cd23 "_law_row" = true) (k23 : PySem.W.keepIn K (.ref f23) = true)
    (a24 : PySem.W.nsIn K mainGlobals "_law_signs" = some (some (.ref f24))) (l24 : K.lookup f24 = some ⟨oc24, od24, .func (PySem.W.fnOf "_law_signs" "_law_signs" (defArgs s__law_signs) (defBody s__law_signs) (defScope s__law_signs) .none kV24 dc24 pm24 an24 cd24 ct24), sl24⟩) (c24 : PySem.W.codeIn K cd24 "_law_signs" = true) (k24 : PySem.W.keepIn K (.ref f24) = true)
    (a25 : PySem.W.nsIn K mainGlobals "_law_way" = some (some (.ref f25))) (l25 : K.lookup f25 = some ⟨oc25, od25, .func (PySem.W.fnOf "_law_way" "_law_way" (defArgs s__law_way) (defBody s__law_way) (defScope s__law_way) .none kV25 dc25 pm25 an25 cd25 ct25), sl25⟩) (c25 : PySem.W.codeIn K cd25 "_law_way" = true) (k25 : PySem.W.keepIn K (.ref f25) = true)
    (a26 : PySem.W.nsIn K mainGlobals "_law_part" = some (some (.ref f26))) (l26 : K.lookup f26 = some ⟨oc26, od26, .func (PySem.W.fnOf "_law_part" "_law_part" (defArgs s__law_part) (defBody s__law_part) (defScope s__law_part) .none kV26 dc26 pm26 an26 cd26 ct26), sl26⟩) (c26 : PySem.W.codeIn K cd26 "_law_part" = true) (k26 : PySem.W.keepIn K (.ref f26) = true)
    (a27 : PySem.W.nsIn K mainGlobals "_law_parts_right" = some (some (.ref f27))) (l27 : K.lookup f27 = some ⟨oc27, od27, .func (PySem.W.fnOf "_law_parts_right" "_law_parts_right" (defArgs s__law_parts_right) (defBody s__law_parts_right) (defScope s__law_parts_right) .none kV27 dc27 pm27 an27 cd27 ct27), sl27⟩) (c27 : PySem.W.codeIn K cd27 "_law_parts_right" = true) (k27 : PySem.W.keepIn K (.ref f27) = true)
    (a28 : PySem.W.nsIn K mainGlobals "law" = some (some (.ref f28))) (l28 : K.lookup f28 = some ⟨oc28, od28, .func (PySem.W.fnOf "law" "law" (defArgs s_law) (defBody s_law) (defScope s_law) .none kV28 dc28 pm28 an28 cd28 ct28), sl28⟩) (c28 : PySem.W.codeIn K cd28 "law" = true) (k28 : PySem.W.keepIn K (.ref f28) = true)
    (z_len : PySem.W.nsIn K mainGlobals "len" = some none)
    (z_isinstance : PySem.W.nsIn K mainGlobals "isinstance" = some none)
    (z_int : PySem.W.nsIn K mainGlobals "int" = some none)
    (z_bool : PySem.W.nsIn K mainGlobals "bool" = some none)
    (z_str : PySem.W.nsIn K mainGlobals "str" = some none)
    (z_tuple : PySem.W.nsIn K mainGlobals "tuple" = some none)
    (z_list : PySem.W.nsIn K mainGlobals "list" = some none)
    (z_sorted : PySem.W.nsIn K mainGlobals "sorted" = some none)
    (z_range : PySem.W.nsIn K mainGlobals "range" = some none)
    (z_repr : PySem.W.nsIn K mainGlobals "repr" = some none)
    (z_enumerate : PySem.W.nsIn K mainGlobals "enumerate" = some none)
    (z_sum : PySem.W.nsIn K mainGlobals "sum" = some none)
    (z_all : PySem.W.nsIn K mainGlobals "all" = some none)
    (z_min : PySem.W.nsIn K mainGlobals "min" = some none)
    (z_max : PySem.W.nsIn K mainGlobals "max" = some none)
    (z_abs : PySem.W.nsIn K mainGlobals "abs" = some none)
    (z_divmod : PySem.W.nsIn K mainGlobals "divmod" = some none)
    (z_dict : PySem.W.nsIn K mainGlobals "dict" = some none)
    (z_set : PySem.W.nsIn K mainGlobals "set" = some none)
    (gM : PySem.W.nsIn K mainGlobals "MOST_NUMBERS" = some (some (.int 9 tM)))
    (gS : PySem.W.nsIn K mainGlobals "SIGNS" = some (some (.ref aS)))
    (lS : K.lookup aS = some ⟨.type "tuple", odS, .seq #[.str "+" tS1, .str "-" tS2, .str "*" tS3] nS, slS⟩) :
    ∃ fd : FuncData, (∀ (s : Shared) (v : Value), BindsTo s fd ⟨[v], []⟩ [("script", v)]) ∧ ∀ base : Heap, K.In base → base.Ns mainGlobals mg → FnOk l.prog w K mg base CX0 45 fa fd ["script"] (spLaw K) := by
  have e := hfa.symm.trans (PySem.W.mg_of X G a28)
  cases e
  have F_is_whole := fun_mk (st := s_is_whole) l0 c0 k0
  have b_is_whole := F_is_whole.binds (ps := ["thing"]) fun _ _ _ _ _ _ us hl => match us, hl with | [_], _ => rfl
  have m_is_whole := PySem.W.mg_of X G a0
  have F_is_sign := fun_mk (st := s_is_sign) l1 c1 k1
  have b_is_sign := F_is_sign.binds (ps := ["thing"]) fun _ _ _ _ _ _ us hl => match us, hl with | [_], _ => rfl
  have m_is_sign := PySem.W.mg_of X G a1
  have F_is_way := fun_mk (st := s_is_way) l2 c2 k2
  have b_is_way := F_is_way.binds (ps := ["thing"]) fun _ _ _ _ _ _ us hl => match us, hl with | [_], _ => rfl
  have m_is_way := PySem.W.mg_of X G a2
  have F_need_way := fun_mk (st := s_need_way) l3 c3 k3
  have b_need_way := F_need_way.binds (ps := ["thing"]) fun _ _ _ _ _ _ us hl => match us, hl with | [_], _ => rfl
  have m_need_way := PySem.W.mg_of X G a3
  have F_need_whole := fun_mk (st := s_need_whole) l4 c4 k4
  have b_need_whole := F_need_whole.binds (ps := ["thing"]) fun _ _ _ _ _ _ us hl => match us, hl with | [_], _ => rfl
  have m_need_whole := PySem.W.mg_of X G a4
  have F_numbers_of := fun_mk (st := s_numbers_of) l5 c5 k5
  have b_numbers_of := F_numbers_of.binds (ps := ["way"]) fun _ _ _ _ _ _ us hl => match us, hl with | [_], _ => rfl
  have m_numbers_of := PySem.W.mg_of X G a5
  have F_list_numbers := fun_mk (st := s_list_numbers) l6 c6 k6
  have b_list_numbers := F_list_numbers.binds (ps := ["way"]) fun _ _ _ _ _ _ us hl => match us, hl with | [_], _ => rfl
  have m_list_numbers := PySem.W.mg_of X G a6
  have F_stretches_of := fun_mk (st := s_stretches_of) l7 c7 k7
  have b_stretches_of := F_stretches_of.binds (ps := ["way"]) fun _ _ _ _ _ _ us hl => match us, hl with | [_], _ => rfl
  have m_stretches_of := PySem.W.mg_of X G a7
  have F_list_stretches := fun_mk (st := s_list_stretches) l8 c8 k8
  have b_list_stretches := F_list_stretches.binds (ps := ["way", "first"]) fun _ _ _ _ _ _ us hl => match us, hl with | [_, _], _ => rfl
  have m_list_stretches := PySem.W.mg_of X G a8
  have F_worth_of := fun_mk (st := s_worth_of) l9 c9 k9
  have b_worth_of := F_worth_of.binds (ps := ["way"]) fun _ _ _ _ _ _ us hl => match us, hl with | [_], _ => rfl
  have m_worth_of := PySem.W.mg_of X G a9
  have F_part_worths := fun_mk (st := s_part_worths) l10 c10 k10
  have b_part_worths := F_part_worths.binds (ps := ["way"]) fun _ _ _ _ _ _ us hl => match us, hl with | [_], _ => rfl
  have m_part_worths := PySem.W.mg_of X G a10
  have F_hangs_by := fun_mk (st := s_hangs_by) l11 c11 k11
  have b_hangs_by := F_hangs_by.binds (ps := ["way", "place"]) fun _ _ _ _ _ _ us hl => match us, hl with | [_, _], _ => rfl
  have m_hangs_by := PySem.W.mg_of X G a11
  have F_with_number := fun_mk (st := s_with_number) l12 c12 k12
  have b_with_number := F_with_number.binds (ps := ["way", "place", "number"]) fun _ _ _ _ _ _ us hl => match us, hl with | [_, _, _], _ => rfl
  have m_with_number := PySem.W.mg_of X G a12
  have F_need_place := fun_mk (st := s_need_place) l13 c13 k13
  have b_need_place := F_need_place.binds (ps := ["way", "thing"]) fun _ _ _ _ _ _ us hl => match us, hl with | [_, _], _ => rfl
  have m_need_place := PySem.W.mg_of X G a13
  have F_put_sign := fun_mk (st := s_put_sign) l14 c14 k14
  have b_put_sign := F_put_sign.binds (ps := ["left", "sign", "right"]) fun _ _ _ _ _ _ us hl => match us, hl with | [_, _, _], _ => rfl
  have m_put_sign := PySem.W.mg_of X G a14
  have F_find_worth := fun_mk (st := s_find_worth) l15 c15 k15
  have b_find_worth := F_find_worth.binds (ps := ["way"]) fun _ _ _ _ _ _ us hl => match us, hl with | [_], _ => rfl
  have m_find_worth := PySem.W.mg_of X G a15
  have F_worths_by_stretch := fun_mk (st := s_worths_by_stretch) l16 c16 k16
  have b_worths_by_stretch := F_worths_by_stretch.binds (ps := ["way", "first"]) fun _ _ _ _ _ _ us hl => match us, hl with | [_, _], _ => rfl
  have m_worths_by_stretch := PySem.W.mg_of X G a16
  have F_times_and_plus := fun_mk (st := s_times_and_plus) l17 c17 k17
  have b_times_and_plus := F_times_and_plus.binds (ps := ["way", "place"]) fun _ _ _ _ _ _ us hl => match us, hl with | [_, _], _ => rfl
  have m_times_and_plus := PySem.W.mg_of X G a17
  have F_put_number := fun_mk (st := s_put_number) l18 c18 k18
  have b_put_number := F_put_number.binds (ps := ["way", "place", "number"]) fun _ _ _ _ _ _ us hl => match us, hl with | [_, _, _], _ => rfl
  have m_put_number := PySem.W.mg_of X G a18
  have F__law_mixed := fun_mk (st := s__law_mixed) l19 c19 k19
  have b__law_mixed := F__law_mixed.binds (ps := ["cell", "k"]) fun _ _ _ _ _ _ us hl => match us, hl with | [_, _], _ => rfl
  have m__law_mixed := PySem.W.mg_of X G a19
  have F__law_well := fun_mk (st := s__law_well) l20 c20 k20
  have b__law_well := F__law_well.binds (ps := ["cell"]) fun _ _ _ _ _ _ us hl => match us, hl with | [_], _ => rfl
  have m__law_well := PySem.W.mg_of X G a20
  have F__law_draw := fun_mk (st := s__law_draw) l21 c21 k21
  have b__law_draw := F__law_draw.binds (ps := ["well", "many"]) fun _ _ _ _ _ _ us hl => match us, hl with | [_, _], _ => rfl
  have m__law_draw := PySem.W.mg_of X G a21
  have F__law_number := fun_mk (st := s__law_number) l22 c22 k22
  have b__law_number := F__law_number.binds (ps := ["well"]) fun _ _ _ _ _ _ us hl => match us, hl with | [_], _ => rfl
  have m__law_number := PySem.W.mg_of X G a22
  have F__law_row := fun_mk (st := s__law_row) l23 c23 k23
  have b__law_row := F__law_row.binds (ps := ["well", "many"]) fun _ _ _ _ _ _ us hl => match us, hl with | [_, _], _ => rfl
  have m__law_row := PySem.W.mg_of X G a23
  have F__law_signs := fun_mk (st := s__law_signs) l24 c24 k24
  have b__law_signs := F__law_signs.binds (ps := ["well"]) fun _ _ _ _ _ _ us hl => match us, hl with | [_], _ => rfl
  have m__law_signs := PySem.W.mg_of X G a24
  have F__law_way := fun_mk (st := s__law_way) l25 c25 k25
  have b__law_way := F__law_way.binds (ps := ["well", "row", "signs"]) fun _ _ _ _ _ _ us hl => match us, hl with | [_, _, _], _ => rfl
  have m__law_way := PySem.W.mg_of X G a25
  have F__law_part := fun_mk (st := s__law_part) l26 c26 k26
  have b__law_part := F__law_part.binds (ps := ["way", "stretch"]) fun _ _ _ _ _ _ us hl => match us, hl with | [_, _], _ => rfl
  have m__law_part := PySem.W.mg_of X G a26
  have F__law_parts_right := fun_mk (st := s__law_parts_right) l27 c27 k27
  have b__law_parts_right := F__law_parts_right.binds (ps := ["well", "way", "worths"]) fun _ _ _ _ _ _ us hl => match us, hl with | [_, _, _], _ => rfl
  have m__law_parts_right := PySem.W.mg_of X G a27
  have F_law := fun_mk (st := s_law) l28 c28 k28
  have B : Bu K mg := ⟨PySem.W.mg_none_of X G z_len, PySem.W.mg_none_of X G z_isinstance, PySem.W.mg_none_of X G z_int, PySem.W.mg_none_of X G z_bool, PySem.W.mg_none_of X G z_str, PySem.W.mg_none_of X G z_tuple, PySem.W.mg_none_of X G z_list, PySem.W.mg_none_of X G z_sorted, PySem.W.mg_none_of X G z_range, PySem.W.mg_none_of X G z_repr, PySem.W.mg_none_of X G z_enumerate, PySem.W.mg_none_of X G z_sum, PySem.W.mg_none_of X G z_all, PySem.W.mg_none_of X G z_min, PySem.W.mg_none_of X G z_max, PySem.W.mg_none_of X G z_abs, PySem.W.mg_none_of X G z_divmod, PySem.W.mg_none_of X G z_dict, PySem.W.mg_none_of X G z_set⟩
  have B' : Co K mg tM aS := ⟨PySem.W.mg_of X G gM, PySem.W.mg_of X G gS, fun H => .inr ⟨_, _, _, lS, rfl, rfl, by show 3 ≤ sizeLine; decide, .cons ⟨_, rfl⟩ (.cons ⟨_, rfl⟩ (.cons ⟨_, rfl⟩ .nil))⟩⟩
  refine ⟨PySem.W.fnOf "law" "law" (defArgs s_law) (defBody s_law) (defScope s_law) .none kV28 dc28 pm28 an28 cd28 ct28, fun s v => .of_eq rfl, fun base _ _ => ?_⟩
  have C_is_whole : Cal l.prog w K mg base "is_whole" 1 ["thing"] (spWhole K) := ⟨_, _, ok_is_whole F_is_whole B, b_is_whole, F_is_whole.kp, m_is_whole⟩
  have C_is_sign : Cal l.prog w K mg base "is_sign" 1 ["thing"] spSign := ⟨_, _, ok_is_sign F_is_sign B B', b_is_sign, F_is_sign.kp, m_is_sign⟩
  have C_is_way : Cal l.prog w K mg base "is_way" 2 ["thing"] spIsWay := ⟨_, _, ok_is_way F_is_way B B' C_is_whole C_is_sign, b_is_way, F_is_way.kp, m_is_way⟩
  have C_need_way : Cal l.prog w K mg base "need_way" 3 ["thing"] spNeedWay := ⟨_, _, ok_need_way F_need_way C_is_way, b_need_way, F_need_way.kp, m_need_way⟩
  have C_list_numbers : Cal l.prog w K mg base "list_numbers" 21 ["way"] (spNums 20) := ⟨_, _, ok_list_numbers F_list_numbers b_list_numbers m_list_numbers C_is_whole 20, b_list_numbers, F_list_numbers.kp, m_list_numbers⟩
  have C_numbers_of : Cal l.prog w K mg base "numbers_of" 22 ["way"] spNumbersOf := ⟨_, _, ok_numbers_of F_numbers_of C_need_way C_list_numbers, b_numbers_of, F_numbers_of.kp, m_numbers_of⟩
  have C__law_mixed : Cal l.prog w K mg base "_law_mixed" 1 ["cell", "k"] spMixed := ⟨_, _, ok_mixed F__law_mixed, b__law_mixed, F__law_mixed.kp, m__law_mixed⟩
  have C__law_well : Cal l.prog w K mg base "_law_well" 1 ["cell"] spWell := ⟨_, _, ok_well F__law_well B, b__law_well, F__law_well.kp, m__law_well⟩
  have C__law_draw : Cal l.prog w K mg base "_law_draw" 2 ["well", "many"] spDraw := ⟨_, _, ok_draw F__law_draw C__law_mixed, b__law_draw, F__law_draw.kp, m__law_draw⟩
  have C__law_number : Cal l.prog w K mg base "_law_number" 3 ["well"] spNumber := ⟨_, _, ok_number F__law_number C__law_draw, b__law_number, F__law_number.kp, m__law_number⟩
  have C__law_row : Cal l.prog w K mg base "_law_row" 4 ["well", "many"] spRow := ⟨_, _, ok_row F__law_row B C__law_draw C__law_number, b__law_row, F__law_row.kp, m__law_row⟩
  have C__law_signs : Cal l.prog w K mg base "_law_signs" 3 ["well"] spLawSigns := ⟨_, _, ok_law_signs F__law_signs C__law_draw, b__law_signs, F__law_signs.kp, m__law_signs⟩
  have C__law_way : Cal l.prog w K mg base "_law_way" 11 ["well", "row", "signs"] (spWay 9) := ⟨_, _, ok_way F__law_way b__law_way m__law_way B C__law_draw 9, b__law_way, F__law_way.kp, m__law_way⟩
  have C_list_stretches : Cal l.prog w K mg base "list_stretches" 42 ["way", "first"] (spStr 20) := ⟨_, _, ok_list_stretches F_list_stretches b_list_stretches m_list_stretches B C_is_whole C_list_numbers 20, b_list_stretches, F_list_stretches.kp, m_list_stretches⟩
  have C_stretches_of : Cal l.prog w K mg base "stretches_of" 43 ["way"] spStretchesOf := ⟨_, _, ok_stretches_of F_stretches_of B C_need_way C_list_stretches, b_stretches_of, F_stretches_of.kp, m_stretches_of⟩
  have C_need_whole : Cal l.prog w K mg base "need_whole" 2 ["thing"] spNeedWhole := ⟨_, _, ok_need_whole F_need_whole C_is_whole, b_need_whole, F_need_whole.kp, m_need_whole⟩
  have C_put_sign : Cal l.prog w K mg base "put_sign" 1 ["left", "sign", "right"] spPutSign := ⟨_, _, ok_put_sign F_put_sign, b_put_sign, F_put_sign.kp, m_put_sign⟩
  have C_find_worth : Cal l.prog w K mg base "find_worth" 21 ["way"] (spWorth 20) := ⟨_, _, ok_find_worth F_find_worth b_find_worth m_find_worth C_is_whole C_put_sign 20, b_find_worth, F_find_worth.kp, m_find_worth⟩
  have C_worth_of : Cal l.prog w K mg base "worth_of" 22 ["way"] spWorthOf := ⟨_, _, ok_worth_of F_worth_of C_need_way C_find_worth, b_worth_of, F_worth_of.kp, m_worth_of⟩
  have C_need_place : Cal l.prog w K mg base "need_place" 22 ["way", "thing"] spNeedPlace := ⟨_, _, ok_need_place F_need_place B C_is_whole C_list_numbers, b_need_place, F_need_place.kp, m_need_place⟩
  have C_times_and_plus : Cal l.prog w K mg base "times_and_plus" 42 ["way", "place"] (spTp 20) := ⟨_, _, ok_tp F_times_and_plus b_times_and_plus m_times_and_plus B C_is_whole C_put_sign C_list_numbers 20, b_times_and_plus, F_times_and_plus.kp, m_times_and_plus⟩
  have C_hangs_by : Cal l.prog w K mg base "hangs_by" 43 ["way", "place"] spHangs := ⟨_, _, ok_hangs_by F_hangs_by C_need_way C_need_place C_times_and_plus, b_hangs_by, F_hangs_by.kp, m_hangs_by⟩
  have C_put_number : Cal l.prog w K mg base "put_number" 42 ["way", "place", "number"] (spPutN 20) := ⟨_, _, ok_put_number F_put_number b_put_number m_put_number B C_is_whole C_list_numbers 20, b_put_number, F_put_number.kp, m_put_number⟩
  have C_with_number : Cal l.prog w K mg base "with_number" 43 ["way", "place", "number"] spWithNumber := ⟨_, _, ok_with_number F_with_number C_need_way C_need_place C_need_whole C_put_number, b_with_number, F_with_number.kp, m_with_number⟩
  have C_worths_by_stretch : Cal l.prog w K mg base "worths_by_stretch" 42 ["way", "first"] (spWbs 20) := ⟨_, _, ok_wbs F_worths_by_stretch b_worths_by_stretch m_worths_by_stretch B C_is_whole C_list_numbers C_put_sign 20, b_worths_by_stretch, F_worths_by_stretch.kp, m_worths_by_stretch⟩
  have C_part_worths : Cal l.prog w K mg base "part_worths" 43 ["way"] spPartWorths := ⟨_, _, ok_part_worths F_part_worths C_need_way C_worths_by_stretch, b_part_worths, F_part_worths.kp, m_part_worths⟩
  have C__law_part : Cal l.prog w K mg base "_law_part" 23 ["way", "stretch"] spPart := ⟨_, _, ok_part F__law_part B C_numbers_of, b__law_part, F__law_part.kp, m__law_part⟩
  have C__law_parts_right : Cal l.prog w K mg base "_law_parts_right" 44 ["well", "way", "worths"] spPartsRight := ⟨_, _, ok_parts_right F__law_parts_right B C_numbers_of C_stretches_of C_worth_of C__law_part C__law_draw C__law_number C_hangs_by C_with_number C_part_worths, b__law_parts_right, F__law_parts_right.kp, m__law_parts_right⟩
  exact ok_law F_law B C__law_well C__law_draw C__law_row C__law_signs C__law_way C__law_parts_right C_worth_of C_part_worths C_with_number
theorem walk {l : PySem.W.OpenLaw} {q : Program} {loose : List Str} {XP : (Str → Option Value) → Heap → Prop} {YP : World → Heap → Prop} {d : DefRec} {K : Params → PySem.W.Frag} (hn : l.most = some 63) (hdf : d.params.defaults = []) (hi : PyProof.Rows.importsNone q = true)
    (hY : ∀ (w : World) (h : Heap), YP w h → (K w.params).In h)
    (F : ∀ (w : World) (mg : Str → Option Value) (fa : Addr) (h : Heap), (K w.params).In h → h.Ns mainGlobals mg → mg d.name = some (.ref fa) →
      ∃ fd : FuncData, (∀ (s : Shared) (u : Value), BindsTo s fd ⟨[u], []⟩ [("script", u)]) ∧ ∀ base : Heap, (K w.params).In base → base.Ns mainGlobals mg → FnOk l.prog w (K w.params) mg base CX0 45 fa fd ["script"] (spLaw (K w.params))) :
    PySem.W.WalkO q loose XP YP l.row.toRowW d [] (fun f vs => PySem.call f vs) :=
  L2.walk_of (n := 63) (k := 45) (x := "script") (CX := fun _ => CX0) (sp := fun w => spLaw (K w.params)) hn (by decide) hdf ⟨rfl, by decide, by decide, rfl⟩ hi hY F (fun _ _ a ns hl _ hS => ⟨a, ns, rfl, hS, hl, fun _ => rfl⟩) fun _ _ _ _ _ z => z
end Put
open PySem PySem.W PyProof.Rows
set_option maxRecDepth 100000 in
set_option maxHeartbeats 0 in
theorem PySem.Challenge.cw_putsigns_k11_whole_worths_together_holds : PySem.Challenge.rw_putsigns_k11_whole_worths_together.Holds := by
  w_on; o_law; k_head; (case hw => w_witness2)
  k_fill
  refine Put.walk (l := PySem.Challenge.rw_putsigns_k11_whole_worths_together) rfl rfl ?hi (fun w h Y => PySem.W.kIn_of Y) ?F
  case hi => first | rfl | decide +kernel
  case F =>
    intro w mg fa h KX G hmg
    refine' Put.all_mk KX G hmg ?a0 ?l0 ?c0 ?k0 ?a1 ?l1 ?c1 ?k1 ?a2 ?l2 ?c2 ?k2 ?a3 ?l3 ?c3 ?k3 ?a4 ?l4 ?c4 ?k4 ?a5 ?l5 ?c5 ?k5 ?a6 ?l6 ?c6 ?k6 ?a7 ?l7 ?c7 ?k7 ?a8 ?l8 ?c8 ?k8 ?a9 ?l9 ?c9 ?k9 ?a10 ?l10 ?c10 ?k10 ?a11 ?l11 ?c11 ?k11 ?a12 ?l12 ?c12 ?k12 ?a13 ?l13 ?c13 ?k13 ?a14 ?l14 ?c14 ?k14 ?a15 ?l15 ?c15 ?k15 ?a16 ?l16 ?c16 ?k16 ?a17 ?l17 ?c17 ?k17 ?a18 ?l18 ?c18 ?k18 ?a19 ?l19 ?c19 ?k19 ?a20 ?l20 ?c20 ?k20 ?a21 ?l21 ?c21 ?k21 ?a22 ?l22 ?c22 ?k22 ?a23 ?l23 ?c23 ?k23 ?a24 ?l24 ?c24 ?k24 ?a25 ?l25 ?c25 ?k25 ?a26 ?l26 ?c26 ?k26 ?a27 ?l27 ?c27 ?k27 ?a28 ?l28 ?c28 ?k28 ?z_len ?z_isinstance ?z_int ?z_bool ?z_str ?z_tuple ?z_list ?z_sorted ?z_range ?z_repr ?z_enumerate ?z_sum ?z_all ?z_min ?z_max ?z_abs ?z_divmod ?z_dict ?z_set ?gM ?gS ?lS
    (case a0 => k_is)
    (case l0 => k_is)
    (case c0 => k_is)
    (case k0 => k_is)
    (case a1 => k_is)
    (case l1 => k_is)
    (case c1 => k_is)
    (case k1 => k_is)
    (case a2 => k_is)
    (case l2 => k_is)
    (case c2 => k_is)
    (case k2 => k_is)
    (case a3 => k_is)
    (case l3 => k_is)
    (case c3 => k_is)
    (case k3 => k_is)
    (case a4 => k_is)
    (case l4 => k_is)
    (case c4 => k_is)
    (case k4 => k_is)
    (case a5 => k_is)
    (case l5 => k_is)
    (case c5 => k_is)
    (case k5 => k_is)
    (case a6 => k_is)
    (case l6 => k_is)
    (case c6 => k_is)
    (case k6 => k_is)
    (case a7 => k_is)
    (case l7 => k_is)
    (case c7 => k_is)
    (case k7 => k_is)
    (case a8 => k_is)
    (case l8 => k_is)
    (case c8 => k_is)
    (case k8 => k_is)
    (case a9 => k_is)
    (case l9 => k_is)
    (case c9 => k_is)
    (case k9 => k_is)
    (case a10 => k_is)
    (case l10 => k_is)
    (case c10 => k_is)
    (case k10 => k_is)
    (case a11 => k_is)
    (case l11 => k_is)
    (case c11 => k_is)
    (case k11 => k_is)
    (case a12 => k_is)
    (case l12 => k_is)
    (case c12 => k_is)
    (case k12 => k_is)
    (case a13 => k_is)
    (case l13 => k_is)
    (case c13 => k_is)
    (case k13 => k_is)
    (case a14 => k_is)
    (case l14 => k_is)
    (case c14 => k_is)
    (case k14 => k_is)
    (case a15 => k_is)
    (case l15 => k_is)
    (case c15 => k_is)
    (case k15 => k_is)
    (case a16 => k_is)
    (case l16 => k_is)
    (case c16 => k_is)
    (case k16 => k_is)
    (case a17 => k_is)
    (case l17 => k_is)
    (case c17 => k_is)
    (case k17 => k_is)
    (case a18 => k_is)
    (case l18 => k_is)
    (case c18 => k_is)
    (case k18 => k_is)
    (case a19 => k_is)
    (case l19 => k_is)
    (case c19 => k_is)
    (case k19 => k_is)
    (case a20 => k_is)
    (case l20 => k_is)
    (case c20 => k_is)
    (case k20 => k_is)
    (case a21 => k_is)
    (case l21 => k_is)
    (case c21 => k_is)
    (case k21 => k_is)
    (case a22 => k_is)
    (case l22 => k_is)
    (case c22 => k_is)
    (case k22 => k_is)
    (case a23 => k_is)
    (case l23 => k_is)
    (case c23 => k_is)
    (case k23 => k_is)
    (case a24 => k_is)
    (case l24 => k_is)
    (case c24 => k_is)
    (case k24 => k_is)
    (case a25 => k_is)
    (case l25 => k_is)
    (case c25 => k_is)
    (case k25 => k_is)
    (case a26 => k_is)
    (case l26 => k_is)
    (case c26 => k_is)
    (case k26 => k_is)
    (case a27 => k_is)
    (case l27 => k_is)
    (case c27 => k_is)
    (case k27 => k_is)
    (case a28 => k_is)
    (case l28 => k_is)
    (case c28 => k_is)
    (case k28 => k_is)
    (case z_len => k_is)
    (case z_isinstance => k_is)
    (case z_int => k_is)
    (case z_bool => k_is)
    (case z_str => k_is)
    (case z_tuple => k_is)
    (case z_list => k_is)
    (case z_sorted => k_is)
    (case z_range => k_is)
    (case z_repr => k_is)
    (case z_enumerate => k_is)
    (case z_sum => k_is)
    (case z_all => k_is)
    (case z_min => k_is)
    (case z_max => k_is)
    (case z_abs => k_is)
    (case z_divmod => k_is)
    (case z_dict => k_is)
    (case z_set => k_is)
    (case gM => k_is)
    (case gS => k_is)
    (case lS => k_is)

