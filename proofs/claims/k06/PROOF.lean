import PyProof.Rows.All
import Wide.All
import OpenK.AllK
import Wide.FinOn
import Lean
import PyProof.EqAt
import PyProof.EqKinds
import PyProof.TupleCall
import PySem.Challenge.RW_squarefield_k06_walks
set_option Elab.async false
set_option linter.all false
set_option maxRecDepth 100000
/-! THE HAND LAYER, for ints, bools, texts, own classes, LISTS and tuples (index, slices, in, append, pop ..), calls, loops. Paste it whole ahead of your own text; what your proof does not reach may be deleted. -/
namespace L2
open PySem PySem.Spec PyProof.Rows

/-- a key: an int or a str -/
abbrev Key := Sum Int Str
def keyIs : Key → Value → Bool
  | .inl k, v => Value.isInt k v
  | .inr x, v => Value.isStrOf x v
def keyH (w : World) : Key → Int
  | .inl k => hashInt k
  | .inr x => hashStr w x
theorem keyIs_shape : ∀ {k : Key} {v : Value}, keyIs k v = true → (∃ i t, k = Sum.inl i ∧ v = Value.int i t) ∨ (∃ x t, k = Sum.inr x ∧ v = Value.str x t)
  | .inl i, v, h => by
    obtain ⟨t, e⟩ := Value.isInt_shape (k := i) (v := v) h
    exact .inl ⟨i, t, rfl, e⟩
  | .inr x, v, h => by
    obtain ⟨t, e⟩ := Value.isStrOf_shape (x := x) (v := v) h
    exact .inr ⟨x, t, rfl, e⟩
theorem keyIs_int (i : Int) (t : Tok) : keyIs (.inl i) (.int i t) = true := by simp [keyIs, Value.isInt]
theorem keyIs_str (x : Str) (t : Tok) : keyIs (.inr x) (.str x t) = true := by simp [keyIs, Value.isStrOf]
theorem key_ll (a b : Int) : decide ((Sum.inl a : Key) = Sum.inl b) = (a == b) := by
  by_cases e : a = b
  · subst e; simp
  · have h : ¬ (Sum.inl a : Key) = Sum.inl b := fun q => e (Sum.inl.inj q)
    rw [decide_eq_false h]
    exact (beq_eq_false_iff_ne.mpr e).symm
theorem key_rr (a b : Str) : decide ((Sum.inr a : Key) = Sum.inr b) = decide (a = b) := by
  by_cases e : a = b
  · subst e; simp
  · have h : ¬ (Sum.inr a : Key) = Sum.inr b := fun q => e (Sum.inr.inj q)
    rw [decide_eq_false h, decide_eq_false e]
theorem key_lr (a : Int) (b : Str) : decide ((Sum.inl a : Key) = Sum.inr b) = false := decide_eq_false (fun q => nomatch q)
theorem key_rl (a : Str) (b : Int) : decide ((Sum.inr a : Key) = Sum.inl b) = false := decide_eq_false (fun q => nomatch q)

def mixKind (prog : Program) (w : World) : PySem.KeyKind prog w Key where
  is := keyIs
  hash := keyH w
  inj := fun v a b ha hb => by
    rcases keyIs_shape ha with ⟨i, t, rfl, rfl⟩ | ⟨x, t, rfl, rfl⟩
    · rcases keyIs_shape hb with ⟨j, u, rfl, e⟩ | ⟨y, u, rfl, e⟩
      · injection e with e1 _; rw [e1]
      · exact nomatch e
    · rcases keyIs_shape hb with ⟨j, u, rfl, e⟩ | ⟨y, u, rfl, e⟩
      · exact nomatch e
      · injection e with e1 _; rw [e1]
  byValue := fun k v h => by
    rcases keyIs_shape h with ⟨i, t, rfl, rfl⟩ | ⟨x, t, rfl, rfl⟩ <;> rfl
  pyHash := fun hv h => by
    rcases keyIs_shape hv with ⟨i, t, rfl, rfl⟩ | ⟨x, t, rfl, rfl⟩
    · exact wpAny_pyHash_int h
    · exact wpAny_pyHash_str h
  eqBool := fun hu hv h => by
    rcases keyIs_shape hu with ⟨i, t, rfl, rfl⟩ | ⟨x, t, rfl, rfl⟩
    · rcases keyIs_shape hv with ⟨j, u, rfl, rfl⟩ | ⟨y, u, rfl, rfl⟩
      · rw [key_ll] at h; exact wpAny_eqBool_int h
      · rw [key_lr] at h; exact SeqAt.EqAt.int_str i t y u _ _ _ _ h
    · rcases keyIs_shape hv with ⟨j, u, rfl, rfl⟩ | ⟨y, u, rfl, rfl⟩
      · rw [key_rl] at h; exact SeqAt.EqAt.str_int x t j u _ _ _ _ h
      · rw [key_rr] at h; exact wpAny_eqBool_str h
  «strs» := fun k x t v h => by
    rcases keyIs_shape h with ⟨i, u, rfl, e⟩ | ⟨y, u, rfl, e⟩
    · exact nomatch e
    · injection e with e1 _
      subst e1
      cases v <;> rfl

theorem mixKind_int (prog : Program) (w : World) (i : Int) (t : Tok) : (mixKind prog w).is (.inl i) (.int i t) = true := keyIs_int i t
theorem mixKind_str (prog : Program) (w : World) (x : Str) (t : Tok) : (mixKind prog w).is (.inr x) (.str x t) = true := keyIs_str x t
end L2

namespace L2
open PySem PySem.Spec PyProof.Rows

/-- a value, without the heap -/
inductive V where
  | non | bl (b : Bool) | int (i : Int) | str (x : Str) | byt (b : Array UInt8) | flt (b : UInt64) | ref (a : Addr) | ty (n : String)
  deriving DecidableEq

def RelV : V → Value → Prop
  | .non, u => u = Value.none
  | .bl b, u => u = Value.bool b
  | .int i, u => ∃ t, u = Value.int i t
  | .str x, u => ∃ t, u = Value.str x t
  | .byt b, u => ∃ t, u = Value.bytes b t
  | .flt b, u => ∃ t, u = Value.float b t
  | .ref a, u => u = Value.ref a
  | .ty n, u => u = Value.type n

abbrev Vals : List V → List Value → Prop := Paired RelV
theorem Vals.length {xs : List V} {us : List Value} (r : Vals xs us) : xs.length = us.length := Paired.length r
theorem Vals.get : ∀ {xs : List V} {us : List Value} {i : Nat} {x : V}, Vals xs us → xs[i]? = some x → ∃ u, us[i]? = some u ∧ RelV x u
  | _, _, _, _, .nil, e => by simp at e
  | _, _, 0, _, .cons r _, e => by simp at e; subst e; exact ⟨_, rfl, r⟩
  | _, _, i + 1, x, .cons _ t, e => by
    obtain ⟨u, h1, h2⟩ := Vals.get (i := i) (x := x) t (by simpa using e)
    exact ⟨u, by simpa using h1, h2⟩
theorem Vals.set {x : V} {u : Value} (r : RelV x u) : ∀ {xs : List V} {us : List Value} (i : Nat), Vals xs us → Vals (xs.set i x) (us.set i u)
  | _, _, _, .nil => .nil
  | _, _, 0, .cons _ t => .cons r t
  | _, _, i + 1, .cons q t => .cons q (Vals.set r i t)
theorem Vals.append : ∀ {xs ys : List V} {us ws : List Value}, Vals xs us → Vals ys ws → Vals (xs ++ ys) (us ++ ws)
  | _, _, _, _, .nil, s => s
  | _, _, _, _, .cons r t, s => .cons r (Vals.append t s)
theorem Vals.take : ∀ {xs : List V} {us : List Value} (n : Nat), Vals xs us → Vals (xs.take n) (us.take n)
  | _, _, 0, _ => .nil
  | _, _, _ + 1, .nil => .nil
  | _, _, n + 1, .cons r t => .cons r (Vals.take n t)
theorem Vals.drop : ∀ {xs : List V} {us : List Value} (n : Nat), Vals xs us → Vals (xs.drop n) (us.drop n)
  | _, _, 0, r => r
  | _, _, _ + 1, .nil => .nil
  | _, _, n + 1, .cons _ t => Vals.drop n t
def RelO : Option V → Option Value → Prop
  | some v, some u => RelV v u
  | none, none => True
  | _, _ => False
def KV {κ : Type} : List (κ × V) → List (κ × Value) → Prop := Paired fun (p : κ × V) (q : κ × Value) => p.1 = q.1 ∧ RelV p.2 q.2

/-- a key of a dict (00_mix): an int or a text -/
def kV : Key → V
  | .inl i => .int i
  | .inr x => .str x

/-- what stands at a tracked address -/
inductive HO where
  /-- a list -/
  | lst (xs : List V)
  /-- a tuple (never changes) -/
  | tup (xs : List V)
  /-- a dict whose keys are ints and texts; one whose keys are tuples of ints and texts (the empty one is both) -/
  | dK (kvs : List (Key × V)) | dT (kvs : List (List Key × V))
  /-- a set of ints: its members, its size -/
  | set (S : Int → Bool) (n : Nat)
  /-- an instance of the class at C, its dict at dx, its attributes -/
  | ins (C dx : Addr) (fs : List (Str × V))
  /-- the dict of the instance at x -/
  | own (x : Addr)
  /-- the dict of an exception -/
  | xd (fs : List (Str × V))
  /-- a bound method, f of x -/
  | met (f x : Addr)
  /-- a range object lo, lo + 1, .. below hi -/
  | rng (lo hi : Int)
  /-- a thing that is known to the object (the script; a dict while a loop walks it): read, never written while it is so -/
  | frz (o : Obj) (u : HO)
  /-- a code object's table -/
  | tbl (ps : Array Value)
  /-- any other thing, by what is true of its one object (a def of one's own: SetO a S n := HO.ext fun h => ..) -/
  | ext (φ : Heap → Prop)

abbrev Hp := Addr → Option HO
def upd (H : Hp) (a : Addr) (o : HO) : Hp := fun b => if b = a then some o else H b
theorem upd_same {H : Hp} {a : Addr} {o : HO} : upd H a o a = some o := by unfold upd; rw [if_pos rfl]
theorem upd_ne {H : Hp} {a b : Addr} {o : HO} (h : b ≠ a) : upd H a o b = H b := by unfold upd; rw [if_neg h]
/-- two objects of different content stand apart -/
theorem ne_of {H : Hp} {a b : Addr} {o u : HO} (h : H a = some o) (h' : H b = some u) (d : o ≠ u) : a ≠ b := by
  intro e; subst e; rw [h] at h'; exact d (Option.some.inj h')
theorem ne_of_none {H : Hp} {a b : Addr} {o : HO} (h : H a = some o) (h' : H b = none) : a ≠ b := by
  intro e; subst e; rw [h] at h'; cases h'

section
variable (P : Program) (w : World)
def ObjOk (H : Hp) (h : Heap) (a : Addr) : HO → Prop
  | .lst xs => xs.length ≤ sizeLine ∧ ∃ (its : List Value) (n : Nat), Vals xs its ∧ h.get? a = some { cls := .type "list", data := .seq its.toArray n }
  | .tup xs => xs.length ≤ sizeLine ∧ ∃ its : List Value, Vals xs its ∧ IsTup h a its.toArray
  | .dK kvs => kvs.length ≤ sizeLine ∧ (a == sysModules) = false ∧ ∃ vs, KV kvs vs ∧ h.DictOf (mixKind P w) a vs
  | .dT kvs => kvs.length ≤ sizeLine ∧ (a == sysModules) = false ∧ ∃ xs : List (List Key × Addr × Value),
      Paired (fun (p : List Key × V) (q : List Key × Addr × Value) => p.1 = q.1 ∧ H q.2.1 = some (.tup (p.1.map kV)) ∧ RelV p.2 q.2.2) kvs xs ∧
      ∃ o es ep, h.get? a = some o ∧ o.ExactDict ∧ o.data = .dict es ep ∧ es.toList = xs.map (entryOfKey (tupleKind (mixKind P w))) ∧ (xs.map (·.1)).Nodup
  | .set S n => h.SetOf (intKind P w) a S n
  | .ins C dx fs => H dx = some (.own a) ∧ fs.length ≤ 1000 ∧ dx ≠ a ∧ h.get? a = some (PySem.W.instObj C dx) ∧
      ∃ mA, h.Ns1 dx mA ∧ (∀ f, RelO (fs.lookup f) (mA f)) ∧ PySem.Within mA (fs.map (·.1))
  | .own _ => ∃ o, h.get? a = some o
  | .xd fs => ∃ mA, h.Ns1 a mA ∧ ∀ f, RelO (fs.lookup f) (mA f)
  | .rng lo hi => ∃ t u v, h.get? a = some { cls := .type "range", data := .fields #[.int lo t, .int hi u, .int 1 v] }
  | .frz o u => h.get? a = some o ∧ ObjOk H h a u
  | .tbl ps => h.get? a = some { cls := .none, data := .fields ps }
  | .met f x => h.get? a = some (PySem.W.methodObj (.ref f) (.ref x))
  | .ext φ => φ h ∧ (∃ o, h.get? a = some o) ∧ ∀ h1 h2 : Heap, φ h1 → (∀ o, h1.get? a = some o → h2.get? a = some o) → φ h2
/-- the abstract heap is held -/
def HOk (H : Hp) (h : Heap) : Prop := ∀ a o, H a = some o → ObjOk P w H h a o
end

section
variable {P : Program} {w : World} {H H' : Hp} {h h' : Heap} {a : Addr} {o : HO}
theorem ObjOk.lt (x : ObjOk P w H h a o) : a < h.objs.size := by
  cases o with
  | lst xs => obtain ⟨_, _, _, _, e⟩ := x; exact Heap.lt_size e
  | tup xs => obtain ⟨_, _, _, p⟩ := x; exact p.lt
  | dK kvs => obtain ⟨_, _, _, _, o, _, _, e, _⟩ := x; exact Heap.lt_size e
  | dT kvs => obtain ⟨_, _, _, _, o, _, _, e, _⟩ := x; exact Heap.lt_size e
  | set S n => obtain ⟨o, _, _, _, e, _⟩ := x; exact Heap.lt_size e
  | ins C dx fs => obtain ⟨_, _, _, e, _⟩ := x; exact Heap.lt_size e
  | own y => obtain ⟨_, e⟩ := x; exact Heap.lt_size e
  | xd fs => obtain ⟨_, ⟨_, _, _, e, _⟩, _⟩ := x; exact Heap.lt_size e
  | rng lo hi => obtain ⟨_, _, _, e⟩ := x; exact Heap.lt_size e
  | frz ob u => obtain ⟨e, _⟩ := x; exact Heap.lt_size e
  | tbl ps => exact Heap.lt_size (show h.get? a = some _ from x)
  | met f y => exact Heap.lt_size (show h.get? a = some _ from x)
  | ext φ => obtain ⟨_, ⟨_, e⟩, _⟩ := x; exact Heap.lt_size e
theorem Paired.mapP {α β : Type} {F G : α → β → Prop} : ∀ {l₁ : List α} {l₂ : List β}, Paired F l₁ l₂ → (∀ a b, F a b → G a b) → Paired G l₁ l₂
  | _, _, .nil, _ => .nil
  | _, _, .cons r t, f => .cons (f _ _ r) (Paired.mapP t f)
/-- what an object's description leans on: its own object, its own dict, the tuples -/
theorem ObjOk.stay (x : ObjOk P w H h a o) (k : ∀ b u, (b = a ∨ H b = some (.own a)) → h.get? b = some u → h'.get? b = some u)
    (ho : ∀ b, H b = some (.own a) → H' b = some (.own a)) (ht : ∀ b xs, H b = some (.tup xs) → H' b = some (.tup xs)) : ObjOk P w H' h' a o := by
  induction o with
  | lst xs => obtain ⟨z, its, n, r, e⟩ := x; exact ⟨z, its, n, r, k _ _ (.inl rfl) e⟩
  | tup xs => obtain ⟨z, its, r, ob, e, c⟩ := x; exact ⟨z, its, r, ob, k _ _ (.inl rfl) e, c⟩
  | dK kvs => obtain ⟨z, y, vs, r, ob, es, ep, e, c⟩ := x; exact ⟨z, y, vs, r, ob, es, ep, k _ _ (.inl rfl) e, c⟩
  | dT kvs =>
    obtain ⟨z, y, xs, r, ob, es, ep, e, c⟩ := x
    exact ⟨z, y, xs, Paired.mapP r fun p q z => ⟨z.1, ht _ _ z.2.1, z.2.2⟩, ob, es, ep, k _ _ (.inl rfl) e, c⟩
  | set S n => obtain ⟨ob, es, ep, t, e, c⟩ := x; exact ⟨ob, es, ep, t, k _ _ (.inl rfl) e, c⟩
  | ins C dx fs =>
    obtain ⟨d, z, ne, e, mA, ⟨od, es, ep, e2, c⟩, r⟩ := x
    exact ⟨ho _ d, z, ne, k _ _ (.inl rfl) e, mA, ⟨od, es, ep, k _ _ (.inr d) e2, c⟩, r⟩
  | own y => obtain ⟨ob, e⟩ := x; exact ⟨ob, k _ _ (.inl rfl) e⟩
  | xd fs => obtain ⟨mA, ⟨od, es, ep, e, c⟩, r⟩ := x; exact ⟨mA, ⟨od, es, ep, k _ _ (.inl rfl) e, c⟩, r⟩
  | rng lo hi => obtain ⟨t, u, v, e⟩ := x; exact ⟨t, u, v, k _ _ (.inl rfl) e⟩
  | frz ob u ih => obtain ⟨e, q⟩ := x; exact ⟨k _ _ (.inl rfl) e, ih q⟩
  | tbl ps =>
    have e : h.get? a = some { cls := .none, data := .fields ps } := x
    show h'.get? a = some { cls := .none, data := .fields ps }
    exact k a _ (.inl rfl) e
  | met f y =>
    have e : h.get? a = some (PySem.W.methodObj (.ref f) (.ref y)) := x
    show h'.get? a = some (PySem.W.methodObj (.ref f) (.ref y))
    exact k a _ (.inl rfl) e
  | ext φ => obtain ⟨p, ⟨o, e⟩, st⟩ := x; exact ⟨st _ _ p fun o q => k _ _ (.inl rfl) q, ⟨o, k _ _ (.inl rfl) e⟩, st⟩
theorem HOk.lt (x : HOk P w H h) (e : H a = some o) : a < h.objs.size := (x a o e).lt
theorem HOk.fresh (x : HOk P w H h) (e : h.objs.size ≤ a) : H a = none := by
  cases q : H a with
  | none => rfl
  | some u => exact absurd (Nat.lt_of_lt_of_le (x.lt q) e) (Nat.lt_irrefl _)
/-- every object of the heap is kept -/
theorem HOk.kept (x : HOk P w H h) (k : ∀ b u, h.get? b = some u → h'.get? b = some u) : HOk P w H h' := fun a o e =>
  (x a o e).stay (fun b u _ q => k b u q) (fun _ q => q) fun _ _ q => q
/-- a new object is laid and tracked -/
theorem HOk.laid (x : HOk P w H h) (k : ∀ b u, h.get? b = some u → h'.get? b = some u) (hp : h.objs.size ≤ a) (new : ObjOk P w (upd H a o) h' a o) : HOk P w (upd H a o) h' := fun b u e => by
  have hn := x.fresh hp
  by_cases hb : b = a
  · subst hb; rw [upd_same] at e; cases e; exact new
  · rw [upd_ne hb] at e
    exact (x b u e).stay (fun c v _ q => k c v q) (fun c q => by rw [upd_ne (ne_of_none q hn)]; exact q) fun c xs q => by rw [upd_ne (ne_of_none q hn)]; exact q
end

/-- what may be read as u: it is u, or a known u -/
def Rd (H : Hp) (a : Addr) (u : HO) : Prop := H a = some u ∨ ∃ o, H a = some (.frz o u)
theorem Rd.of {H : Hp} {a : Addr} {u : HO} (h : H a = some u) : Rd H a u := .inl h
theorem Rd.ok {P : Program} {w : World} {H : Hp} {h : Heap} {a : Addr} {u : HO} (r : Rd H a u) (x : HOk P w H h) : ObjOk P w H h a u := by
  rcases r with r | ⟨o, r⟩
  · exact x a u r
  · obtain ⟨_, q⟩ := x a _ r
    exact q
/-- what may be written -/
def Mut : Option HO → Prop
  | some (.lst _) => True
  | some (.dK _) => True
  | some (.dT _) => True
  | some (.set _ _) => True
  | some (.ins _ _ _) => True
  | some (.ext _) => True
  | _ => False
section
variable {P : Program} {w : World} {H : Hp} {h h' : Heap} {x e : Addr} {o' : HO}
/-- the object at e is changed: x itself, or the dict of the instance x -/
theorem HOk.write (ok : HOk P w H h) (mu : Mut (H x)) (he : e = x ∨ H e = some (.own x)) (k : ∀ b u, b ≠ e → h.get? b = some u → h'.get? b = some u) (heo : ∃ u, h'.get? e = some u)
    (new : ObjOk P w (upd H x o') h' x o') : HOk P w (upd H x o') h' := fun b u q => by
  have nown : ∀ c y, H c = some (.own y) → c ≠ x := fun c y r z => by subst z; rw [r] at mu; exact mu
  have ntup : ∀ c xs, H c = some (.tup xs) → c ≠ x := fun c xs r z => by subst z; rw [r] at mu; exact mu
  by_cases hb : b = x
  · subst hb; rw [upd_same] at q; cases q; exact new
  · rw [upd_ne hb] at q
    by_cases hbe : b = e
    · have q' : H b = some (.own x) := by
        rcases he with z | z
        · exact absurd (hbe.trans z) hb
        · rw [hbe]; exact z
      rw [q] at q'; cases q'
      obtain ⟨v, hv⟩ := heo
      exact ⟨v, by rw [hbe]; exact hv⟩
    · refine (ok b u q).stay (fun c v hc r => k c v ?_ r) (fun c r => by rw [upd_ne (nown c b r)]; exact r) fun c xs r => by rw [upd_ne (ntup c xs r)]; exact r
      rcases hc with rfl | hc
      · exact hbe
      · rintro rfl
        rcases he with z | z
        · exact nown c b hc z
        · rw [hc] at z; cases z; exact hb rfl
end

/-! ### kept unless tracked; of the frames at fs (the callers') the slots may change (an exception that passes writes there); of the records at ex (iterators) nothing is said -/
structure Un (fs ex : List Addr) (H H' : Hp) (h h' : Heap) : Prop where
  keep : ∀ b o, h.get? b = some o → H b = none → b ∉ fs → b ∉ ex → h'.get? b = some o
  slot : ∀ b o, h.get? b = some o → H b = none → b ∈ fs → b ∉ ex → ∃ sl, h'.get? b = some { o with slots := sl }
  free : ∀ b o, h.get? b = some o → H b = none → b ∉ ex → H' b = none
  there : ∀ b o, h.get? b = some o → b ∉ ex → ∃ o', h'.get? b = some o'
  tups : ∀ b xs, H b = some (.tup xs) → H' b = some (.tup xs)
  frzs : ∀ b o u, H b = some (.frz o u) → H' b = some (.frz o u)
  tbls : ∀ b ps, H b = some (.tbl ps) → ∃ more, H' b = some (.tbl (ps ++ more))
section
variable {fs fs' ex ex' : List Addr} {H H1 H2 : Hp} {h h1 h2 h' : Heap} {a x e : Addr} {o : HO}
theorem Un.any (u : Un fs ex H H1 h h1) {b : Addr} {ob : Obj} (q : h.get? b = some ob) (n : H b = none) (hx : b ∉ ex) : ∃ sl, h1.get? b = some { ob with slots := sl } := by
  by_cases hb : b ∈ fs
  · exact u.slot b ob q n hb hx
  · exact ⟨ob.slots, u.keep b ob q n hb hx⟩
theorem Un.trans (a : Un fs ex H H1 h h1) (b : Un fs ex H1 H2 h1 h2) : Un fs ex H H2 h h2 where
  keep := fun c ob q n hc hx => b.keep c ob (a.keep c ob q n hc hx) (a.free c ob q n hx) hc hx
  slot := fun c ob q n hc hx => by
    obtain ⟨sl, e1⟩ := a.slot c ob q n hc hx
    obtain ⟨sl', e2⟩ := b.slot c _ e1 (a.free c ob q n hx) hc hx
    exact ⟨sl', e2⟩
  free := fun c ob q n hx => by
    obtain ⟨o', e1⟩ := a.there c ob q hx
    exact b.free c o' e1 (a.free c ob q n hx) hx
  there := fun c ob q hx => by
    obtain ⟨o', e1⟩ := a.there c ob q hx
    exact b.there c o' e1 hx
  tups := fun c xs q => b.tups c xs (a.tups c xs q)
  frzs := fun c ob xs q => b.frzs c ob xs (a.frzs c ob xs q)
  tbls := fun c ps q => by
    obtain ⟨m1, e1⟩ := a.tbls c ps q
    obtain ⟨m2, e2⟩ := b.tbls c _ e1
    exact ⟨m1 ++ m2, by rw [e2, Array.append_assoc]⟩
theorem Un.kept (k : ∀ b u, h.get? b = some u → h'.get? b = some u) : Un fs ex H H h h' :=
  ⟨fun b ob q _ _ _ => k b ob q, fun b ob q _ _ _ => ⟨ob.slots, k b ob q⟩, fun _ _ _ n _ => n, fun b ob q _ => ⟨ob, k b ob q⟩, fun _ _ q => q, fun _ _ _ q => q, fun _ ps q => ⟨#[], by rw [q]; simp⟩⟩
theorem Un.refl : Un fs ex H H h h := Un.kept fun _ _ q => q
theorem Un.laid (k : ∀ b u, h.get? b = some u → h'.get? b = some u) (hp : h.objs.size ≤ a) (hn : H a = none) : Un fs ex H (upd H a o) h h' where
  keep := fun b u q _ _ _ => k b u q
  slot := fun b u q _ _ _ => ⟨u.slots, k b u q⟩
  free := fun b u q n _ => by rw [upd_ne (Nat.ne_of_lt (Nat.lt_of_lt_of_le (Heap.lt_size q) hp))]; exact n
  there := fun b u q _ => ⟨u, k b u q⟩
  tups := fun b xs q => by rw [upd_ne (ne_of_none q hn)]; exact q
  frzs := fun b u xs q => by rw [upd_ne (ne_of_none q hn)]; exact q
  tbls := fun b ps q => ⟨#[], by rw [upd_ne (ne_of_none q hn), q]; simp⟩
theorem Un.write (mu : Mut (H x)) (he : e = x ∨ H e = some (.own x)) (k : ∀ b u, b ≠ e → h.get? b = some u → h'.get? b = some u) (heo : ∃ u, h'.get? e = some u) : Un fs ex H (upd H x o) h h' := by
  have hx : ∀ b, H b = none → b ≠ x := fun b n z => by subst z; rw [n] at mu; exact mu
  have hb : ∀ b, H b = none → b ≠ e := fun b n z => by
    subst z
    rcases he with r | r
    · exact hx b n r
    · rw [n] at r; cases r
  have hm : ∀ b u, H b = some u → ¬ Mut (some u) → b ≠ x := fun b u q nm z => by subst z; rw [q] at mu; exact nm mu
  refine ⟨fun b u q n _ _ => k b u (hb b n) q, fun b u q n _ _ => ⟨u.slots, k b u (hb b n) q⟩, fun b u q n _ => by rw [upd_ne (hx b n)]; exact n, fun b u q _ => ?_,
    fun b xs q => by rw [upd_ne (hm b _ q fun z => z)]; exact q, fun b u xs q => by rw [upd_ne (hm b _ q fun z => z)]; exact q, fun b ps q => ⟨#[], by rw [upd_ne (hm b _ q fun z => z), q]; simp⟩⟩
  by_cases hbe : b = e
  · subst hbe; exact heo
  · exact ⟨u, k b u hbe q⟩
theorem Un.mono (u : Un fs ex H H1 h h1) (hs : ∀ b ∈ fs, b ∈ fs') (hx : ∀ b ∈ ex, b ∈ ex') : Un fs' ex' H H1 h h1 :=
  ⟨fun b ob q n hb he => u.keep b ob q n (fun z => hb (hs b z)) fun z => he (hx b z), fun _ _ q n _ he => u.any q n fun z => he (hx _ z), fun b ob q n he => u.free b ob q n fun z => he (hx b z), fun b ob q he => u.there b ob q fun z => he (hx b z), u.tups, u.frzs, u.tbls⟩
end

/-! ### the heap without what is tracked -/
def trk (h : Heap) (H : Hp) : List Addr := (List.range h.objs.size).filter fun a => (H a).isSome
def hidT (h : Heap) (H : Hp) : Heap := PySem.W.hideAll h (trk h H)
theorem hidT_size (h : Heap) (H : Hp) : (hidT h H).objs.size = h.objs.size := PySem.W.hideAll_size _ _
theorem hidT_get {h : Heap} {H : Hp} {b : Addr} {o : Obj} (e : h.get? b = some o) (n : H b = none) : (hidT h H).get? b = some o :=
  PySem.W.hideAll_get _ e fun hm => by
    have q : (H b).isSome = true := (List.mem_filter.mp hm).2
    rw [n] at q; simp at q
theorem of_hidT {h : Heap} {H : Hp} {b : Addr} {o : Obj} (e : (hidT h H).get? b = some o) : h.get? b = some o ∧ H b = none := by
  have e' : h.get? b = some o := PySem.W.of_hideAll (trk h H) e
  refine ⟨e', ?_⟩
  cases q : H b with
  | none => rfl
  | some x =>
    have hm : b ∈ trk h H := List.mem_filter.mpr ⟨List.mem_range.mpr (Heap.lt_size e'), by simp [q]⟩
    have z : (hidT h H).get? b = none := PySem.W.hideAll_none (trk h H) hm
    rw [z] at e; cases e

/-! ### OpenK's ledger, filled with every new object but one -/
def allNews (g h : Heap) (L : Addr) : List (Addr × Obj) := (List.range h.objs.size).filterMap fun a => if a = L ∨ (g.get? a).isSome = true then none else (h.get? a).map fun o => (a, o)
def rest (g h : Heap) (L d : Addr) : List (Addr × Obj) := (allNews g h L).filter fun p => decide (p.1 ≠ d)
end L2

namespace L2
open PySem PySem.Spec PyProof.Rows

/-- the module's facts, over the base: the heap at the law's entry without what is tracked there -/
structure Mod (K : PySem.W.Frag) (mg : Str → Option Value) (base : Heap) : Prop where
  kin : K.In base
  glob : base.Ns mainGlobals mg
  blt : ∃ mb, base.Ns builtinsNs mb ∧ ∀ x : Str, x ≠ "__name__" → mb x = bootBuiltins x
  nolimit : base.NoLimit

/-- the context: a def's body (or a comprehension's block) running. base: fixed through the whole law; s₀, H₀: the entry; outer: the frames whose slots others may change (a def's callers); stack: all frames that run;
   ex: iterators that were made ahead of the entry and are walked here (a comprehension's); fn: the names whose cells were made at the entry (a def: all; a comprehension's block: its own); calm: not within an except suite; pn: pins that every state bears; xe: what is wanted of an exception that leaves the code -/
structure Cx where
  prog : Program
  w : World
  K : PySem.W.Frag
  mg : Str → Option Value
  base : Heap
  A : Around
  N : List Str
  s₀ : Shared
  H₀ : Hp
  env : Env
  outer : List Env
  stack : List Env
  ex : List Addr
  fn : Str → Bool
  calm : Bool
  pn : List (Addr × Obj)
  xe : Value → Shared → Prop
/-- the callers' frames -/
def frs (l : List Env) : List Addr := l.filterMap (·.frame)
abbrev Cx.fs (X : Cx) : List Addr := frs X.outer

def Vis (sc : Scope) (x : Str) : Prop := sc.names.lookup x = some .local ∨ sc.names.lookup x = some .cell ∨ sc.names.lookup x = some .free
def Loc (sc : Scope) (x : Str) : Prop := sc.names.lookup x = some .local ∨ sc.names.lookup x = some .cell
def Look (env : Env) (h : Heap) (m : Str → Option Value) (x : Str) (u : Value) : Prop :=
  (env.kindOf x = some .local ∧ m x = some u) ∨ ((env.kindOf x = some .cell ∨ env.kindOf x = some .free) ∧ ∃ c, env.cells.lookup x = some c ∧ h.IsCell c (some u))

structure Cx.Ok (X : Cx) : Prop where
  mod : Mod X.K X.mg X.base
  kind : X.env.scope.kind = .function
  glob : X.env.globals = mainGlobals
  blt : X.env.builtins = builtinsNs
  above : X.s₀.heap.objs.size ≤ X.env.locals
  inj : ∀ x y c, X.env.cells.lookup x = some c → X.env.cells.lookup y = some c → x = y
  has : ∀ x, (X.env.kindOf x = some .cell ∨ X.env.kindOf x = some .free) → ∃ c, X.env.cells.lookup x = some c
  cab : ∀ x c, X.fn x = true → X.env.cells.lookup x = some c → X.s₀.heap.objs.size ≤ c
  hd : X.calm = true → X.A.handled = none
  frames : X.A.frames = some X.stack
  stk : X.stack = X.outer ∨ (X.stack = X.env :: X.outer ∧ X.env.frame = some X.env.locals)
  exf : ∀ b ∈ X.ex, b ≠ X.env.locals ∧ ∀ x c, X.env.cells.lookup x = some c → c ≠ b
  bs : ∀ b o, X.base.get? b = some o → X.s₀.heap.get? b = some o ∧ X.H₀ b = none
  bsz : X.base.objs.size ≤ X.s₀.heap.objs.size
  noex : ∀ b o, X.base.get? b = some o → b ∉ X.ex
  exfs : ∀ b ∈ X.ex, b ∉ X.fs
  funs : X.s₀.heap.FunFrames X.base X.outer
  frf : ∀ b ∈ X.fs, X.H₀ b = none

structure Inv (X : Cx) (pins : List (Addr × Obj)) (σ : List (Option V)) (H : Hp) (s : Shared) : Prop where
  ok : X.Ok
  os : s.os = X.s₀.os
  bare : AllBare s.gens
  base : Un X.fs X.ex X.H₀ H X.s₀.heap s.heap
  loc : ∃ m, s.heap.Ns X.env.locals m ∧ ∀ (i : Nat) (x : Str) (v : V), X.N[i]? = some x → σ[i]? = some (some v) → Vis X.env.scope x → ∃ u, RelV v u ∧ Look X.env s.heap m x u
  cell : ∀ x c, X.env.cells.lookup x = some c → ∃ v, s.heap.IsCell c v
  free : H X.env.locals = none
  freeC : ∀ x c, X.env.cells.lookup x = some c → H c = none
  pin : ∀ p ∈ X.pn ++ pins, s.heap.get? p.1 = some p.2 ∧ H p.1 = none ∧ p.1 ≠ X.env.locals ∧ p.1 ∉ X.fs ∧ ∀ v, p.2.data ≠ .cell v
  hok : HOk X.prog X.w H s.heap
  len : σ.length = X.N.length

section
variable {X : Cx} {pins : List (Addr × Obj)} {σ : List (Option V)} {H H' : Hp} {s : Shared} {h' : Heap}

theorem Cx.Ok.nofr (ok : X.Ok) {b : Addr} {o : Obj} (e : X.base.get? b = some o) : b ∉ X.fs := fun hb => by
  have := (ok.funs.mem hb).1
  rw [e] at this; cases this
theorem Inv.bs (I : Inv X pins σ H s) : ∀ b o, X.base.get? b = some o → s.heap.get? b = some o ∧ H b = none := fun b o e =>
  ⟨I.base.keep b o (I.ok.bs b o e).1 (I.ok.bs b o e).2 (I.ok.nofr e) (I.ok.noex b o e), I.base.free b o (I.ok.bs b o e).1 (I.ok.bs b o e).2 (I.ok.noex b o e)⟩
theorem Inv.bk (I : Inv X pins σ H s) : ∀ b o, X.base.get? b = some o → s.heap.get? b = some o := fun b o e => (I.bs b o e).1
theorem Inv.mod (I : Inv X pins σ H s) : Mod X.K X.mg X.base := I.ok.mod
theorem Inv.kIn (I : Inv X pins σ H s) : X.K.In s.heap := I.ok.mod.kin.keeps I.bk
theorem Inv.nolimit (I : Inv X pins σ H s) : s.heap.NoLimit := I.ok.mod.nolimit.keeps I.bk
/-- the frame over the base: for OpenK's rules (K.In X.base is I.mod.kin) -/
theorem Inv.fr (I : Inv X pins σ H s) : ∃ m, Fr X.base X.env.locals s.heap m :=
  let ⟨m, hn, _⟩ := I.loc
  ⟨m, hn, I.bk, Nat.le_trans I.ok.bsz I.ok.above⟩
theorem Inv.lt (I : Inv X pins σ H s) : X.env.locals < s.heap.objs.size := let ⟨_, hn, _⟩ := I.loc; hn.lt
theorem Inv.sz (I : Inv X pins σ H s) : X.s₀.heap.objs.size ≤ s.heap.objs.size := Nat.le_trans I.ok.above (Nat.le_of_lt I.lt)
theorem Inv.nofs (I : Inv X pins σ H s) {a : Addr} (h : s.heap.objs.size ≤ a) : a ∉ X.fs := fun hb => by
  obtain ⟨_, o, ho, _⟩ := I.ok.funs.mem hb
  exact absurd (Nat.lt_of_lt_of_le (Heap.lt_size ho) (Nat.le_trans I.sz h)) (Nat.lt_irrefl _)
theorem Inv.cne (I : Inv X pins σ H s) : ∀ x c, X.env.cells.lookup x = some c → c ≠ X.env.locals := fun x c e z => by
  obtain ⟨v, o, ho, hd⟩ := I.cell x c e
  obtain ⟨m, ⟨o', es, ep, ho', hd', _⟩, _⟩ := I.loc
  rw [z, ho'] at ho; cases ho; rw [hd'] at hd; cases hd
theorem Inv.funs (I : Inv X pins σ H s) : s.heap.FunFrames X.base X.outer := by
  have all : ∀ (l : List Env), (∀ b ∈ frs l, b ∈ X.fs) → X.s₀.heap.FunFrames X.base l → s.heap.FunFrames X.base l := by
    intro l
    induction l with
    | nil => intro _ _; trivial
    | cons env r ih =>
      intro hs hl
      obtain ⟨hk, ⟨L, o, hf, hn, ho, hd⟩, hr⟩ := hl
      have hL : L ∈ X.fs := hs L (by unfold frs; rw [List.filterMap_cons, hf]; exact List.mem_cons_self)
      obtain ⟨sl, e⟩ := I.base.slot L o ho (I.ok.frf L hL) hL fun z => I.ok.exfs L z hL
      exact ⟨hk, ⟨L, _, hf, hn, e, hd⟩, ih (fun b hb => hs b (by unfold frs; rw [List.filterMap_cons, hf]; exact List.mem_cons_of_mem _ hb)) hr⟩
  exact all X.outer (fun _ hb => hb) I.ok.funs

/-- the frames that run, for a call -/
theorem Inv.stack (I : Inv X pins σ H s) : s.heap.FunFrames X.base X.stack := by
  rcases I.ok.stk with e | ⟨e, hf⟩
  · rw [e]; exact I.funs
  · rw [e]
    obtain ⟨m, hn, _⟩ := I.loc
    refine .cons (by rw [I.ok.kind]; decide) hf hn ?_ I.funs
    exact Heap.get?_none_of_le (Nat.le_trans I.ok.bsz I.ok.above)
theorem Inv.stkSub (I : Inv X pins σ H s) : ∀ b ∈ frs X.stack, b ∈ X.env.locals :: X.fs := fun b hb => by
  rcases I.ok.stk with e | ⟨e, hf⟩
  · rw [e] at hb; exact List.mem_cons_of_mem _ hb
  · rw [e] at hb
    unfold frs at hb
    rw [List.filterMap_cons, hf] at hb
    exact hb
theorem Inv.stkFree (I : Inv X pins σ H s) : ∀ b ∈ frs X.stack, H b = none := fun b hb => by
  rcases List.mem_cons.mp (I.stkSub b hb) with e | hb
  · rw [e]; exact I.free
  · obtain ⟨_, o, ho, _⟩ := I.ok.funs.mem hb
    exact I.base.free b o ho (I.ok.frf b hb) fun z => I.ok.exfs b z hb

/-- THE STEP: the untracked objects but the frame and the records at ch are kept (the callers' frames up to slots), the frame's map is kept, the new abstract heap is held -/
theorem Inv.step {g' : Array GenState} {t' : Nat} {d' : Drawn} {ch : List Addr} (I : Inv X pins σ H s)
    (hch : ∀ b ∈ ch, (b ∈ X.ex ∨ X.s₀.heap.objs.size ≤ b) ∧ b ≠ X.env.locals ∧ (∀ x c, X.env.cells.lookup x = some c → c ≠ b) ∧ ∀ p ∈ X.pn ++ pins, p.1 ≠ b)
    (keep : ∀ b o, b ≠ X.env.locals → b ∉ X.fs → b ∉ ch → s.heap.get? b = some o → H b = none → h'.get? b = some o)
    (slot : ∀ b o, b ≠ X.env.locals → b ∈ X.fs → b ∉ ch → s.heap.get? b = some o → H b = none → ∃ sl, h'.get? b = some { o with slots := sl }) (free : ∀ b o, b ∉ ch → s.heap.get? b = some o → H b = none → H' b = none)
    (there : ∀ b o, b ∉ ch → s.heap.get? b = some o → ∃ o', h'.get? b = some o')
    (tups : ∀ b xs, H b = some (.tup xs) → H' b = some (.tup xs)) (frzs : ∀ b o u, H b = some (.frz o u) → H' b = some (.frz o u)) (tbls : ∀ b ps, H b = some (.tbl ps) → ∃ more, H' b = some (.tbl (ps ++ more)))
    (ns : ∀ m, s.heap.Ns X.env.locals m → h'.Ns X.env.locals m) (hok : HOk X.prog X.w H' h') (hg : AllBare g') :
    Inv X pins σ H' { s with heap := h', gens := g', drawn := d', toks := t' } := by
  have neL : ∀ b o, X.s₀.heap.get? b = some o → b ≠ X.env.locals := fun b o e => Nat.ne_of_lt (Nat.lt_of_lt_of_le (Heap.lt_size e) I.ok.above)
  have neC : ∀ b o, X.s₀.heap.get? b = some o → b ∉ X.ex → b ∉ ch := fun b o e hx hb => by
    rcases (hch b hb).1 with z | z
    · exact hx z
    · exact absurd (Nat.lt_of_lt_of_le (Heap.lt_size e) z) (Nat.lt_irrefl _)
  have cellK : ∀ x c, X.env.cells.lookup x = some c → ∀ v, s.heap.IsCell c v → h'.IsCell c v := fun x c e v ⟨o, ho, hd⟩ => by
    have nch : c ∉ ch := fun z => (hch c z).2.2.1 x c e rfl
    by_cases hc : c ∈ X.fs
    · obtain ⟨sl, q⟩ := slot c o (I.cne x c e) hc nch ho (I.freeC x c e)
      exact ⟨_, q, hd⟩
    · exact ⟨o, keep c o (I.cne x c e) hc nch ho (I.freeC x c e), hd⟩
  refine ⟨I.ok, I.os, hg, ⟨fun b o e n hb hx => ?_, fun b o e n hb hx => ?_, fun b o e n hx => ?_, fun b o e hx => ?_, fun b xs e => tups b xs (I.base.tups b xs e), fun b o xs e => frzs b o xs (I.base.frzs b o xs e), fun b ps e => ?_⟩, ?_, fun x c e => ?_, ?_, fun x c e => ?_, fun p hp => ?_, hok, I.len⟩
  · exact keep b o (neL b o e) hb (neC b o e hx) (I.base.keep b o e n hb hx) (I.base.free b o e n hx)
  · obtain ⟨sl, e1⟩ := I.base.slot b o e n hb hx
    obtain ⟨sl', e2⟩ := slot b _ (neL b o e) hb (neC b o e hx) e1 (I.base.free b o e n hx)
    exact ⟨sl', e2⟩
  · obtain ⟨o', e1⟩ := I.base.there b o e hx
    exact free b o' (neC b o e hx) e1 (I.base.free b o e n hx)
  · obtain ⟨o', e1⟩ := I.base.there b o e hx
    exact there b o' (neC b o e hx) e1
  · obtain ⟨m1, e1⟩ := I.base.tbls b ps e
    obtain ⟨m2, e2⟩ := tbls b _ e1
    exact ⟨m1 ++ m2, by rw [e2, Array.append_assoc]⟩
  · obtain ⟨m, hn, hl⟩ := I.loc
    refine ⟨m, ns m hn, fun i x v e1 e2 e3 => ?_⟩
    obtain ⟨u, r, l⟩ := hl i x v e1 e2 e3
    refine ⟨u, r, ?_⟩
    rcases l with l | ⟨k, c, e, z⟩
    · exact .inl l
    · exact .inr ⟨k, c, e, cellK x c e _ z⟩
  · obtain ⟨v, z⟩ := I.cell x c e
    exact ⟨v, cellK x c e v z⟩
  · obtain ⟨m, ⟨o, _, _, ho, _⟩, _⟩ := I.loc
    exact free _ o (fun z => (hch _ z).2.1 rfl) ho I.free
  · obtain ⟨v, o, ho, hd⟩ := I.cell x c e
    exact free c o (fun z => (hch c z).2.2.1 x c e rfl) ho (I.freeC x c e)
  · obtain ⟨e, n, ne, nf, d⟩ := I.pin p hp
    have nch : p.1 ∉ ch := fun z => (hch p.1 z).2.2.2 p hp rfl
    exact ⟨keep p.1 p.2 ne nf nch e n, free p.1 p.2 nch e n, ne, nf, d⟩
/-- .. where the frame's own object is kept too -/
theorem Inv.un {t' : Nat} (I : Inv X pins σ H s) (u : Un X.fs [] H H' s.heap h') (hok : HOk X.prog X.w H' h') : Inv X pins σ H' { s with heap := h', toks := t' } := by
  obtain ⟨m, ⟨o, es, ep, ho, r⟩, _⟩ := id I.loc
  obtain ⟨sl, hL⟩ := u.any ho I.free (by simp)
  exact I.step (g' := s.gens) (d' := s.drawn) (ch := []) (fun _ z => nomatch z) (fun b o _ hb _ e n => u.keep b o e n hb (by simp)) (fun b o _ hb _ e n => u.slot b o e n hb (by simp)) (fun b o _ e n => u.free b o e n (by simp)) (fun b o _ e => u.there b o e (by simp)) u.tups u.frzs u.tbls (fun m' hm => by
    obtain ⟨o', es', ep', ho', r'⟩ := hm
    rw [ho] at ho'; cases ho'
    exact ⟨_, es', ep', hL, r'⟩) hok I.bare
/-- behind a call (or a comprehension's block): the slots of this frame may have changed too, the records at ch may have turned -/
theorem Inv.call {g' : Array GenState} {t' : Nat} {d' : Drawn} {ch : List Addr} (I : Inv X pins σ H s) (u : Un (frs X.stack) ch H H' s.heap h') (hok : HOk X.prog X.w H' h') (hg : AllBare g')
    (hch : ∀ b ∈ ch, (b ∈ X.ex ∨ X.s₀.heap.objs.size ≤ b) ∧ b ≠ X.env.locals ∧ (∀ x c, X.env.cells.lookup x = some c → c ≠ b) ∧ ∀ p ∈ X.pn ++ pins, p.1 ≠ b) :
    Inv X pins σ H' { s with heap := h', gens := g', drawn := d', toks := t' } := by
  obtain ⟨m, ⟨o, es, ep, ho, r⟩, _⟩ := id I.loc
  obtain ⟨sl, hL⟩ := u.any ho I.free fun z => (hch _ z).2.1 rfl
  exact I.step (ch := ch) hch (fun b o hL hb hc e n => u.keep b o e n (fun z => (List.mem_cons.mp (I.stkSub b z)).elim hL hb) hc) (fun b o _ _ hc e n => u.any e n hc) (fun b o hc e n => u.free b o e n hc) (fun b o hc e => u.there b o e hc) u.tups u.frzs u.tbls (fun m' hm => by
    obtain ⟨o', es', ep', ho', r'⟩ := hm
    rw [ho] at ho'; cases ho'
    exact ⟨_, es', ep', hL, r'⟩) hok hg
/-- an untracked record of ours (an iterator) has turned -/
theorem Inv.turned {t' : Nat} {it : Addr} (I : Inv X pins σ H s) (k : ∀ b o, b ≠ it → s.heap.get? b = some o → h'.get? b = some o) (hn : H it = none) (hL : it ≠ X.env.locals)
    (h1 : it ∈ X.ex ∨ X.s₀.heap.objs.size ≤ it) (h2 : ∀ x c, X.env.cells.lookup x = some c → c ≠ it) (h3 : ∀ p ∈ X.pn ++ pins, p.1 ≠ it) : Inv X pins σ H { s with heap := h', toks := t' } := by
  have nit : ∀ b u, H b = some u → b ≠ it := fun b u e z => by rw [z, hn] at e; cases e
  refine I.step (g' := s.gens) (d' := s.drawn) (ch := [it]) (fun b hb => ?_) (fun b o _ _ hc e _ => k b o (fun z => hc (by simp [z])) e) (fun b o _ _ hc e _ => ⟨o.slots, k b o (fun z => hc (by simp [z])) e⟩) (fun _ _ _ _ n => n)
    (fun b o hc e => ⟨o, k b o (fun z => hc (by simp [z])) e⟩) (fun _ _ e => e) (fun _ _ _ e => e) (fun b ps e => ⟨#[], by rw [e]; simp⟩) (fun m hm => ?_) (fun b u e => ?_) I.bare
  · have e : b = it := by simpa using hb
    subst e
    exact ⟨h1, hL, h2, h3⟩
  · obtain ⟨o, es, ep, ho, r⟩ := hm
    exact ⟨o, es, ep, k _ o (Ne.symm hL) ho, r⟩
  · refine (I.hok b u e).stay (fun c v hc q => k c v ?_ q) (fun _ q => q) fun _ _ q => q
    rcases hc with z | z
    · rw [z]; exact nit b u e
    · exact nit c _ z
theorem Inv.tok (I : Inv X pins σ H s) (t : Nat) : Inv X pins σ H { s with toks := t } := I.un (h' := s.heap) (t' := t) Un.refl I.hok
/-- all objects kept -/
theorem Inv.kept {t' : Nat} (I : Inv X pins σ H s) (k : ∀ b u, s.heap.get? b = some u → h'.get? b = some u) : Inv X pins σ H { s with heap := h', toks := t' } := I.un (Un.kept k) (I.hok.kept k)
/-- a new object laid and tracked -/
theorem Inv.laid {a : Addr} {o : HO} {t' : Nat} (I : Inv X pins σ H s) (k : ∀ b u, s.heap.get? b = some u → h'.get? b = some u) (hp : s.heap.objs.size ≤ a) (new : ObjOk X.prog X.w (upd H a o) h' a o) :
    Inv X pins σ (upd H a o) { s with heap := h', toks := t' } := I.un (Un.laid k hp (I.hok.fresh hp)) (I.hok.laid k hp new)
/-- an object written -/
theorem Inv.write {x e : Addr} {o : HO} {t' : Nat} (I : Inv X pins σ H s) (mu : Mut (H x)) (he : e = x ∨ H e = some (.own x)) (k : ∀ b u, b ≠ e → s.heap.get? b = some u → h'.get? b = some u) (heo : ∃ u, h'.get? e = some u)
    (new : ObjOk X.prog X.w (upd H x o) h' x o) : Inv X pins σ (upd H x o) { s with heap := h', toks := t' } := I.un (Un.write mu he k heo) (I.hok.write mu he k heo new)
theorem Inv.pins_of {pins' : List (Addr × Obj)} (I : Inv X pins σ H s) (h : ∀ p ∈ pins', s.heap.get? p.1 = some p.2 ∧ H p.1 = none ∧ p.1 ≠ X.env.locals ∧ p.1 ∉ X.fs ∧ ∀ v, p.2.data ≠ .cell v) : Inv X pins' σ H s :=
  ⟨I.ok, I.os, I.bare, I.base, I.loc, I.cell, I.free, I.freeC, fun p hp => (List.mem_append.mp hp).elim (fun z => I.pin p (List.mem_append_left _ z)) (h p), I.hok, I.len⟩

theorem nodup_ix {N : List Str} (hN : N.Nodup) {i j : Nat} {x : Str} (a : N[i]? = some x) (b : N[j]? = some x) : i = j := by
  obtain ⟨h1, e1⟩ := List.getElem?_eq_some_iff.mp a
  obtain ⟨h2, e2⟩ := List.getElem?_eq_some_iff.mp b
  exact (List.getElem_inj hN).mp (e1.trans e2.symm)

/-- a name is stored; what changed -/
theorem store_ok2 {M : Model} {A : Around} {E : Value → Shared → Prop} {i : Nat} {x : Str} {v : V} {u : Value} {Q : Unit → Shared → Prop} (I : Inv X pins σ H s) (hN : X.N.Nodup) (hi : X.N[i]? = some x) (hx : Loc X.env.scope x) (r : RelV v u)
    (h : ∀ s', Inv X pins (σ.set i (some v)) H s' → (∃ a, Heap.SameBut a s.heap s'.heap ∧ (a = X.env.locals ∨ X.env.cells.lookup x = some a)) → Q () s') (hf : X.fn x = true ∨ X.env.scope.names.lookup x = some .local := by first | exact .inl rfl | exact .inr rfl | assumption) : wpAny M A (storeName X.env x u) Q E s := by
  obtain ⟨m, hn, hl⟩ := id I.loc
  have hcls : (X.env.scope.kind == .class || (X.env.scope.kind == .module && X.env.locals != X.env.globals)) = false := by rw [I.ok.kind]; rfl
  have hiσ : i < σ.length := by rw [I.len]; exact (List.getElem?_eq_some_iff.mp hi).1
  have cne := I.cne
  have tracked : ∀ {a : Addr} {h' : Heap}, (∃ o, s.heap.get? a = some o ∧ H a = none) → Heap.SameBut a s.heap h' → HOk X.prog X.w H h' := fun {a h'} ha hs b ob e => by
    obtain ⟨_, _, hfree⟩ := ha
    refine (I.hok b ob e).stay (fun c w' hc q => (hs.2 c ?_).trans q) (fun _ q => q) fun _ _ q => q
    rintro rfl
    rcases hc with rfl | hc
    · rw [hfree] at e; cases e
    · rw [hfree] at hc; cases hc
  rcases hx with hk | hk
  · refine wpAny_storeName_local hk hn (fun h' hn' hs => ?_) hcls
    obtain ⟨oL, _, _, hoL, _⟩ := id hn
    refine h _ ⟨I.ok, I.os, I.bare, ⟨fun b o e n hb hx => ?_, fun b o e n hb hx => ?_, I.base.free, fun b o e hx => ?_, I.base.tups, I.base.frzs, I.base.tbls⟩, ⟨_, hn', fun j y v' e1 e2 e3 => ?_⟩, fun y c e => ?_, I.free, I.freeC, fun p hp => ?_, tracked ⟨oL, hoL, I.free⟩ hs, by simpa using I.len⟩ ⟨_, hs, .inl rfl⟩
    · exact (hs.2 b (Nat.ne_of_lt (Nat.lt_of_lt_of_le (Heap.lt_size e) I.ok.above))).trans (I.base.keep b o e n hb hx)
    · obtain ⟨sl, e1⟩ := I.base.slot b o e n hb hx
      exact ⟨sl, (hs.2 b (Nat.ne_of_lt (Nat.lt_of_lt_of_le (Heap.lt_size e) I.ok.above))).trans e1⟩
    · obtain ⟨o', e1⟩ := I.base.there b o e hx
      exact ⟨o', (hs.2 b (Nat.ne_of_lt (Nat.lt_of_lt_of_le (Heap.lt_size e) I.ok.above))).trans e1⟩
    · by_cases hj : j = i
      · subst hj
        rw [hi] at e1; cases e1
        rw [List.getElem?_set_self hiσ] at e2
        cases e2
        exact ⟨u, r, .inl ⟨hk, by simp⟩⟩
      · rw [List.getElem?_set_ne (Ne.symm hj)] at e2
        obtain ⟨u', r', q⟩ := hl j y v' e1 e2 e3
        refine ⟨u', r', ?_⟩
        rcases q with ⟨k, e⟩ | ⟨k, c, e, z⟩
        · refine .inl ⟨k, ?_⟩
          have : y ≠ x := fun e => hj (nodup_ix hN e1 (e ▸ hi))
          simp [this, e]
        · exact .inr ⟨k, c, e, z.sameBut hs (cne y c e)⟩
    · obtain ⟨w', z⟩ := I.cell y c e
      exact ⟨w', z.sameBut hs (cne y c e)⟩
    · obtain ⟨e, n, ne, nf, d⟩ := I.pin p hp
      exact ⟨(hs.2 p.1 ne).trans e, n, ne, nf, d⟩
  · have hfn : X.fn x = true := by
      rcases hf with z | z
      · exact z
      · rw [z] at hk; cases hk
    obtain ⟨c, hc⟩ := I.ok.has x (.inl hk)
    obtain ⟨w', z⟩ := I.cell x c hc
    refine wpAny_storeName_cell I.ok.kind hk hc z (fun h' hc' hs => ?_)
    obtain ⟨oc, hoc, hocd⟩ := id z
    refine h { s with heap := h' } ⟨I.ok, I.os, I.bare, ⟨fun b o e n hb hx => ?_, fun b o e n hb hx => ?_, I.base.free, fun b o e hx => ?_, I.base.tups, I.base.frzs, I.base.tbls⟩, ⟨m, hn.sameBut hs (Ne.symm (cne x c hc)), fun j y v' e1 e2 e3 => ?_⟩, fun y c' e => ?_, I.free, I.freeC, fun p hp => ?_, tracked ⟨oc, hoc, I.freeC x c hc⟩ hs, by simpa using I.len⟩ ⟨c, hs, .inr hc⟩
    · exact (hs.2 b (Nat.ne_of_lt (Nat.lt_of_lt_of_le (Heap.lt_size e) (I.ok.cab x c hfn hc)))).trans (I.base.keep b o e n hb hx)
    · obtain ⟨sl, e1⟩ := I.base.slot b o e n hb hx
      exact ⟨sl, (hs.2 b (Nat.ne_of_lt (Nat.lt_of_lt_of_le (Heap.lt_size e) (I.ok.cab x c hfn hc)))).trans e1⟩
    · obtain ⟨o', e1⟩ := I.base.there b o e hx
      exact ⟨o', (hs.2 b (Nat.ne_of_lt (Nat.lt_of_lt_of_le (Heap.lt_size e) (I.ok.cab x c hfn hc)))).trans e1⟩
    · by_cases hj : j = i
      · subst hj
        rw [hi] at e1; cases e1
        rw [List.getElem?_set_self hiσ] at e2
        cases e2
        exact ⟨u, r, .inr ⟨.inl hk, c, hc, hc'⟩⟩
      · rw [List.getElem?_set_ne (Ne.symm hj)] at e2
        obtain ⟨u', r', q⟩ := hl j y v' e1 e2 e3
        refine ⟨u', r', ?_⟩
        rcases q with q | ⟨k, c', e, z'⟩
        · exact .inl q
        · refine .inr ⟨k, c', e, z'.sameBut hs ?_⟩
          rintro rfl
          exact hj (nodup_ix hN e1 (I.ok.inj _ _ _ e hc ▸ hi))
    · by_cases hcc : c' = c
      · subst hcc; exact ⟨_, hc'⟩
      · obtain ⟨w2, z2⟩ := I.cell y c' e
        exact ⟨w2, z2.sameBut hs hcc⟩
    · obtain ⟨e, n, ne, nf, d⟩ := I.pin p hp
      refine ⟨(hs.2 p.1 ?_).trans e, n, ne, nf, d⟩
      intro q
      rw [q, hoc] at e
      have q' : oc = p.2 := Option.some.inj e
      exact d w' (by rw [← q']; exact hocd)
theorem store_ok {M : Model} {A : Around} {E : Value → Shared → Prop} {i : Nat} {x : Str} {v : V} {u : Value} {Q : Unit → Shared → Prop} (I : Inv X pins σ H s) (hN : X.N.Nodup) (hi : X.N[i]? = some x) (hx : Loc X.env.scope x) (r : RelV v u)
    (h : ∀ s', Inv X pins (σ.set i (some v)) H s' → Q () s') (hf : X.fn x = true ∨ X.env.scope.names.lookup x = some .local := by first | exact .inl rfl | exact .inr rfl | assumption) : wpAny M A (storeName X.env x u) Q E s :=
  store_ok2 I hN hi hx r (fun s' I' _ => h s' I') hf
/-- behind a call or a block, the state as it is -/
theorem Inv.call' {s' : Shared} {ch : List Addr} (I : Inv X pins σ H s) (ho : s'.os = s.os) (u : Un (frs X.stack) ch H H' s.heap s'.heap) (hok : HOk X.prog X.w H' s'.heap) (hg : AllBare s'.gens)
    (hch : ∀ b ∈ ch, (b ∈ X.ex ∨ X.s₀.heap.objs.size ≤ b) ∧ b ≠ X.env.locals ∧ (∀ x c, X.env.cells.lookup x = some c → c ≠ b) ∧ ∀ p ∈ X.pn ++ pins, p.1 ≠ b) : Inv X pins σ H' s' := by
  obtain ⟨h', g', d', t', o'⟩ := s'
  have e : o' = s.os := ho
  subst e
  exact I.call (g' := g') (t' := t') (d' := d') u hok hg hch
end

/-! ### the judgements -/
/-- an exception: its class, its own dict's address (where it has one), the abstract heap behind it -/
abbrev XK := Value → Option Addr → Hp → Prop
abbrev St := List (Option V)
abbrev VK := V → Hp → Prop
/-- an expression's reading; a test's; an argument list's -/
abbrev TE := St → Hp → VK → Prop
abbrev TT := St → Hp → (Bool → Hp → Prop) → Prop
abbrev TA := St → Hp → (List V → Hp → Prop) → Prop
/-- what is wanted behind a statement -/
structure Ends where
  nx : St → Hp → Prop
  rt : VK
  bk : St → Hp → Prop := fun _ _ => False
  ct : St → Hp → Prop := fun _ _ => False
abbrev TS := Ends → St → Hp → Prop

def EP (X : Cx) (pins : List (Addr × Obj)) (σ : St) (Q : VK) (u : Value) (s' : Shared) : Prop := ∃ v H', Inv X pins σ H' s' ∧ RelV v u ∧ Q v H'
def TP (X : Cx) (pins : List (Addr × Obj)) (σ : St) (Q : Bool → Hp → Prop) (b : Bool) (s' : Shared) : Prop := ∃ H', Inv X pins σ H' s' ∧ Q b H'
def AP (X : Cx) (pins : List (Addr × Obj)) (σ : St) (Q : List V → Hp → Prop) (us : List Value) (s' : Shared) : Prop := ∃ vs H', Inv X pins σ H' s' ∧ Vals vs us ∧ Q vs H'
def SP (X : Cx) (pins : List (Addr × Obj)) (D : Ends) (f : Flow) (s' : Shared) : Prop :=
  match f with
  | .next => ∃ σ' H', Inv X pins σ' H' s' ∧ D.nx σ' H'
  | .brk => ∃ σ' H', Inv X pins σ' H' s' ∧ D.bk σ' H'
  | .cont => ∃ σ' H', Inv X pins σ' H' s' ∧ D.ct σ' H'
  | .ret u => ∃ v σ' H', Inv X pins σ' H' s' ∧ RelV v u ∧ D.rt v H'

def PE (X : Cx) (e : Expr) (t : TE) : Prop :=
  ∀ (pins : List (Addr × Obj)) (s : Shared) (σ : St) (H : Hp) (Q : VK), Inv X pins σ H s → t σ H Q → wpAny (model X.prog X.w) X.A (eval e X.env) (EP X pins σ Q) X.xe s
def PT (X : Cx) (e : Expr) (t : TT) : Prop :=
  ∀ (pins : List (Addr × Obj)) (s : Shared) (σ : St) (H : Hp) (Q : Bool → Hp → Prop), Inv X pins σ H s → t σ H Q → wpAny (model X.prog X.w) X.A (isTrue e X.env (eval e X.env)) (TP X pins σ Q) X.xe s
/-- a test whatever its 'whole' is (and, or) -/
def PW (X : Cx) (e : Expr) (t : TT) : Prop :=
  ∀ (whole : Sem Value) (pins : List (Addr × Obj)) (s : Shared) (σ : St) (H : Hp) (Q : Bool → Hp → Prop), Inv X pins σ H s → t σ H Q → wpAny (model X.prog X.w) X.A (isTrue e X.env whole) (TP X pins σ Q) X.xe s
theorem PW.pt {X : Cx} {e : Expr} {t : TT} (h : PW X e t) : PT X e t := h _
/-- an argument list (no star), from the left -/
def PA (X : Cx) (es : List Expr) (t : TA) : Prop :=
  ∀ (pos : Pos) (pins : List (Addr × Obj)) (s : Shared) (σ : St) (H : Hp) (Q : List V → Hp → Prop), Inv X pins σ H s → t σ H Q → wpAny (model X.prog X.w) X.A (spliced (backTo pos (starEach es X.env))) (AP X pins σ Q) X.xe s
def PS (X : Cx) (st : Stmt) (t : TS) : Prop :=
  ∀ (pins : List (Addr × Obj)) (s : Shared) (σ : St) (H : Hp) (D : Ends), Inv X pins σ H s → t D σ H → wpAny (model X.prog X.w) X.A (exec st X.env) (SP X pins D) X.xe s
def PSs (X : Cx) (st : List Stmt) (t : TS) : Prop :=
  ∀ (pins : List (Addr × Obj)) (s : Shared) (σ : St) (H : Hp) (D : Ends), Inv X pins σ H s → t D σ H → wpAny (model X.prog X.w) X.A (execs st X.env) (SP X pins D) X.xe s
/-- weaken the end -/
theorem thn {α : Type} {t : Sem α} {Q Q' : α → Shared → Prop} {M : Model} {A : Around} {E : Value → Shared → Prop} {s : Shared} (h : wpAny M A t Q E s) (hQ : ∀ a s, Q a s → Q' a s) : wpAny M A t Q' E s := wpAny_mono h hQ fun _ _ x => x
end L2

namespace L2
open PySem PySem.Spec PyProof.Rows
section
variable {X : Cx}

/-! ### names and constants -/
def tVar (i : Nat) : TE := fun σ H Q => ∃ v, σ[i]? = some (some v) ∧ Q v H
def tC (v : V) : TE := fun _ H Q => Q v H
theorem pe_var {i : Nat} {x : Str} {pos : Pos} (hN : X.N[i]? = some x) (hv : Vis X.env.scope x) (hd : (x == ("__debug__" : Str)) = false := by decide) (hcd : (x == ("__classdict__" : Str)) = false := by decide) : PE X (.Name x pos) (tVar i) := by
  intro pins s σ H Q I h
  obtain ⟨v, e, h⟩ := h
  obtain ⟨m, hn, hl⟩ := I.loc
  obtain ⟨u, r, l⟩ := hl i x v hN e hv
  have fin : EP X pins σ Q u s := ⟨v, H, I, r, h⟩
  rcases l with ⟨hk, hm⟩ | ⟨hk, c, hc, hcell⟩
  · exact wpAny_Name (wpAny_loadName_local I.ok.kind hk hn hm fin) hd
  · rcases hk with hk | hk
    · exact wpAny_Name (wpAny_loadName_cell I.ok.kind hk hc hcell fin) hd
    · exact wpAny_Name (wpAny_loadName_free I.ok.kind hk hc hcell fin hcd) hd
theorem pe_int {i j pos} : PE X (.Constant (.int i) j pos) (tC (.int i)) := fun _ _ _ H _ I h => wpAny_Constant_int ⟨.int i, H, I.tok _, ⟨_, rfl⟩, h⟩
theorem pe_bl {b j pos} : PE X (.Constant (.bool b) j pos) (tC (.bl b)) := fun _ _ _ H _ I h => Constant_bool ⟨.bl b, H, I, rfl, h⟩
/-- a global name of the def -/
def Gl (X : Cx) (x : Str) : Prop := X.env.kindOf x = some .globalImplicit
theorem ld_glob {E : Value → Shared → Prop} {pins : List (Addr × Obj)} {s : Shared} {σ : St} {H : Hp} {x : Str} {u : Value} {pos : Pos} {Q : Value → Shared → Prop} (I : Inv X pins σ H s) (hg : Gl X x) (hm : X.mg x = some u) (h : Q u s)
    (hd : (x == ("__debug__" : Str)) = false := by decide) : wpAny (model X.prog X.w) X.A (eval (.Name x pos) X.env) Q E s :=
  Calls.Name_function_global I.ok.kind hg (Calls.loadGlobal_global (by rw [I.ok.glob]; exact I.mod.glob.keeps I.bk) hm h) hd
theorem ld_blt {E : Value → Shared → Prop} {pins : List (Addr × Obj)} {s : Shared} {σ : St} {H : Hp} {x : Str} {u : Value} {pos : Pos} {Q : Value → Shared → Prop} (I : Inv X pins σ H s) (hg : Gl X x) (hm : X.mg x = none) (hv : bootBuiltins x = some u) (h : Q u s)
    (hn : x ≠ "__name__" := by decide) (hd : (x == ("__debug__" : Str)) = false := by decide) : wpAny (model X.prog X.w) X.A (eval (.Name x pos) X.env) Q E s := by
  obtain ⟨mb, h1, h2⟩ := I.mod.blt
  exact Calls.Name_function_global I.ok.kind hg (Calls.loadGlobal_builtin (by rw [I.ok.glob]; exact I.mod.glob.keeps I.bk) hm (by rw [I.ok.blt]; exact h1.keeps I.bk) ((h2 x hn).trans hv) h) hd
/-- a module's constant, a class, a function, as a value -/
theorem pe_glob {x : Str} {v : V} {u : Value} {pos : Pos} (hg : Gl X x) (hm : X.mg x = some u) (r : RelV v u) (hd : (x == ("__debug__" : Str)) = false := by decide) : PE X (.Name x pos) (tC v) :=
  fun _ _ _ H _ I h => ld_glob I hg hm ⟨v, H, I, r, h⟩ hd
theorem pe_bltn {x : Str} {v : V} {u : Value} {pos : Pos} (hg : Gl X x) (hm : X.mg x = none) (hv : bootBuiltins x = some u) (r : RelV v u) (hn : x ≠ "__name__" := by decide) (hd : (x == ("__debug__" : Str)) = false := by decide) : PE X (.Name x pos) (tC v) :=
  fun _ _ _ H _ I h => ld_blt I hg hm hv ⟨v, H, I, r, h⟩ hn hd

variable {a b : Expr} {ta tb : TE} {pos : Pos}
/-- a comparison as a value, as a test -/
def tB (t : TE) : TT := fun σ H Q => t σ H fun x H1 => ∃ c, x = .bl c ∧ Q c H1
/-- an expression whose value is a bool, as a test -/
theorem pt_val {e : Expr} {t : TE} (h : PE X e t) (he : ∀ whole, isTrue e X.env whole = (do let v ← whole; standAt e.pos; holding [v] (truthy v)) := by intro _; rfl) : PT X e (tB t) := by
  intro pins s σ H Q I hw
  refine isTrue_plain (thn (h pins s σ H _ I hw) fun v s1 ⟨x, H1, I1, r1, q1⟩ => ?_) (he _)
  obtain ⟨d, rfl, q⟩ := q1
  cases r1
  exact wpAny_truthy_bool ⟨H1, I1, q⟩

/-! ### and, or, not -/
variable {tA tB' : TT} {rest : List Expr}
def tAnd (t u : TT) : TT := fun σ H Q => t σ H fun c H1 => if c = true then u σ H1 Q else Q false H1
def tOr (t u : TT) : TT := fun σ H Q => t σ H fun c H1 => if c = true then Q true H1 else u σ H1 Q
def tNot (t : TT) : TT := fun σ H Q => t σ H fun c H1 => Q (!c) H1
theorem pw_and1 (ha : PT X a tA) : PW X (.BoolOp .And [a] pos) tA := by
  intro wh pins s σ H Q I h
  refine isTrue_and (thn (ha pins s σ H Q I h) fun c s1 e => ?_)
  cases c with
  | true => exact isTrue_and_nil e
  | false => exact e
theorem pw_or1 (ha : PT X a tA) : PW X (.BoolOp .Or [a] pos) tA := by
  intro wh pins s σ H Q I h
  refine isTrue_or (thn (ha pins s σ H Q I h) fun c s1 e => ?_)
  cases c with
  | false => exact isTrue_or_nil e
  | true => exact e
theorem pw_and (ha : PT X a tA) (hb : PW X (.BoolOp .And (b :: rest) pos) tB') : PW X (.BoolOp .And (a :: b :: rest) pos) (tAnd tA tB') := by
  intro wh pins s σ H Q I h
  refine isTrue_and (thn (ha pins s σ H _ I h) fun c s1 ⟨H1, I1, q1⟩ => ?_)
  cases c with
  | true => exact hb wh pins s1 σ H1 Q I1 q1
  | false => exact ⟨H1, I1, q1⟩
theorem pw_or (ha : PT X a tA) (hb : PW X (.BoolOp .Or (b :: rest) pos) tB') : PW X (.BoolOp .Or (a :: b :: rest) pos) (tOr tA tB') := by
  intro wh pins s σ H Q I h
  refine isTrue_or (thn (ha pins s σ H _ I h) fun c s1 ⟨H1, I1, q1⟩ => ?_)
  cases c with
  | true => exact ⟨H1, I1, q1⟩
  | false => exact hb wh pins s1 σ H1 Q I1 q1
theorem pt_not (ha : PT X a tA) : PT X (.UnaryOp .Not a pos) (tNot tA) := by
  intro pins s σ H Q I h
  exact isTrue_not (ha pins s σ H (fun c H1 => Q (!c) H1) I h)
/-- .. as values (bools) -/
def tAndV (ta tb : TE) : TE := fun σ H Q => ta σ H fun x H1 => ∃ c, x = .bl c ∧ if c = true then tb σ H1 Q else Q (.bl false) H1
def tOrV (ta tb : TE) : TE := fun σ H Q => ta σ H fun x H1 => ∃ c, x = .bl c ∧ if c = true then Q (.bl true) H1 else tb σ H1 Q
def tNotV (ta : TE) : TE := fun σ H Q => ta σ H fun x H1 => ∃ c, x = .bl c ∧ Q (.bl (!c)) H1
theorem pe_one {op} {t : TE} (h : PE X a t) : PE X (.BoolOp op [a] pos) t := fun pins s σ H Q I hw => BoolOp_one (h pins s σ H Q I hw)
theorem pe_and (ha : PE X a ta) (hb : PE X (.BoolOp .And (b :: rest) pos) tb) : PE X (.BoolOp .And (a :: b :: rest) pos) (tAndV ta tb) := by
  intro pins s σ H Q I h
  refine BoolOp_and (thn (ha pins s σ H _ I h) fun v s1 ⟨x, H1, I1, r1, q1⟩ => ?_)
  obtain ⟨c, rfl, q1⟩ := q1
  cases r1
  refine wpAny_truthy_bool ?_
  cases c with
  | true => exact hb pins s1 σ H1 Q I1 q1
  | false => exact ⟨.bl false, H1, I1, rfl, q1⟩
theorem pe_or (ha : PE X a ta) (hb : PE X (.BoolOp .Or (b :: rest) pos) tb) : PE X (.BoolOp .Or (a :: b :: rest) pos) (tOrV ta tb) := by
  intro pins s σ H Q I h
  refine BoolOp_or (thn (ha pins s σ H _ I h) fun v s1 ⟨x, H1, I1, r1, q1⟩ => ?_)
  obtain ⟨c, rfl, q1⟩ := q1
  cases r1
  refine wpAny_truthy_bool ?_
  cases c with
  | false => exact hb pins s1 σ H1 Q I1 q1
  | true => exact ⟨.bl true, H1, I1, rfl, q1⟩
theorem pe_not (ha : PE X a ta) : PE X (.UnaryOp .Not a pos) (tNotV ta) := by
  intro pins s σ H Q I h
  refine UnaryOp_ (thn (ha pins s σ H _ I h) fun v s1 ⟨x, H1, I1, r1, q1⟩ => ?_)
  obtain ⟨c, rfl, q1⟩ := q1
  cases r1
  exact not_of (wpAny_truthy_bool ⟨.bl (!c), H1, I1, rfl, q1⟩)
/-- a if t else b -/
def tIf (t : TT) (ta tb : TE) : TE := fun σ H Q => t σ H fun c H1 => if c = true then ta σ H1 Q else tb σ H1 Q
theorem pe_ifExp {c : Expr} (hc : PT X c tA) (ha : PE X a ta) (hb : PE X b tb) : PE X (.IfExp c a b pos) (tIf tA ta tb) := by
  intro pins s σ H Q I h
  refine wpAny_IfExp (thn (hc pins s σ H _ I h) fun d s1 ⟨H1, I1, q1⟩ => ?_)
  cases d with
  | true => exact ha pins s1 σ H1 Q I1 q1
  | false => exact hb pins s1 σ H1 Q I1 q1
end
end L2

namespace L2
open PySem PySem.Spec PyProof.Rows

/-! ### a list, a tuple that is read: tracked, frozen, or an object of the module -/
def SqL (K : PySem.W.Frag) (H : Hp) (a : Addr) (xs : List V) : Prop :=
  Rd H a (.lst xs) ∨
    ∃ (o : Obj) (its : Array Value) (n : Nat), K.lookup a = some o ∧ o.cls = .type "list" ∧ o.dict = none ∧ o.data = .seq its n ∧ its.size ≤ sizeLine ∧ Vals xs its.toList
def SqT (K : PySem.W.Frag) (H : Hp) (a : Addr) (xs : List V) : Prop :=
  Rd H a (.tup xs) ∨
    ∃ (o : Obj) (its : Array Value) (n : Nat), K.lookup a = some o ∧ o.cls = .type "tuple" ∧ o.data = .seq its n ∧ its.size ≤ sizeLine ∧ Vals xs its.toList
def absV : Value → Option V
  | .none => some .non
  | .bool b => some (.bl b)
  | .int i _ => some (.int i)
  | .str x _ => some (.str x)
  | .bytes b _ => some (.byt b)
  | .float b _ => some (.flt b)
  | .ref a => some (.ref a)
  | .type n => some (.ty n)
  | _ => none
theorem RelV.abs {x : V} {u : Value} (r : RelV x u) : absV u = some x := by
  cases x with
  | non => cases r; rfl
  | bl _ => cases r; rfl
  | int _ => obtain ⟨t, rfl⟩ := r; rfl
  | str _ => obtain ⟨t, rfl⟩ := r; rfl
  | byt _ => obtain ⟨t, rfl⟩ := r; rfl
  | flt _ => obtain ⟨t, rfl⟩ := r; rfl
  | ref _ => cases r; rfl
  | ty _ => cases r; rfl
theorem RelV.inj {x y : V} {u : Value} (r : RelV x u) (q : RelV y u) : x = y := Option.some.inj (r.abs.symm.trans q.abs)
theorem Vals.inj : ∀ {xs ys : List V} {us : List Value}, Vals xs us → Vals ys us → xs = ys
  | _, _, _, .nil, .nil => rfl
  | _, _, _, .cons r t, .cons r' t' => by rw [r.inj r', Vals.inj t t']
section
variable {X : Cx} {pins : List (Addr × Obj)} {σ : St} {H : Hp} {s : Shared} {a : Addr} {xs ys : List V}
theorem SqL.of {K : PySem.W.Frag} (h : H a = some (.lst xs)) : SqL K H a xs := .inl (.inl h)
theorem SqT.of {K : PySem.W.Frag} (h : H a = some (.tup xs)) : SqT K H a xs := .inl (.inl h)
theorem Inv.list (I : Inv X pins σ H s) (h : SqL X.K H a xs) : ∃ its : List Value, Vals xs its ∧ PlainL s.heap a its.toArray ∧ xs.length ≤ sizeLine := by
  rcases h with h | ⟨o, its, n, hk, hc, hd, hs, hz, r⟩
  · obtain ⟨z, its, n, r, e⟩ := h.ok I.hok
    exact ⟨its, r, ⟨_, n, e, rfl, rfl, rfl⟩, z⟩
  · refine ⟨its.toList, r, ⟨o, n, I.kIn a o hk, hc, hd, by simpa using hs⟩, ?_⟩
    have e := r.length
    simp only [Array.length_toList] at e
    omega
theorem Inv.tuple (I : Inv X pins σ H s) (h : SqT X.K H a xs) : ∃ its : List Value, Vals xs its ∧ IsTup s.heap a its.toArray ∧ xs.length ≤ sizeLine := by
  rcases h with h | ⟨o, its, n, hk, hc, hs, hz, r⟩
  · obtain ⟨z, its, r, p⟩ := h.ok I.hok
    exact ⟨its, r, p, z⟩
  · refine ⟨its.toList, r, ⟨o, I.kIn a o hk, hc, n, by simpa using hs⟩, ?_⟩
    have e := r.length
    simp only [Array.length_toList] at e
    omega
theorem Inv.list_inj (I : Inv X pins σ H s) (h : SqL X.K H a xs) (h' : SqL X.K H a ys) : xs = ys := by
  obtain ⟨its, r, ⟨o, n, e, _, _, d⟩, _⟩ := I.list h
  obtain ⟨its', r', ⟨o', n', e', _, _, d'⟩, _⟩ := I.list h'
  rw [e] at e'; cases e'
  rw [d] at d'
  injection d' with d1 _
  have : its = its' := by simpa using congrArg Array.toList d1
  subst this
  exact r.inj r'
theorem Inv.tuple_inj (I : Inv X pins σ H s) (h : SqT X.K H a xs) (h' : SqT X.K H a ys) : xs = ys := by
  obtain ⟨its, r, ⟨o, e, _, n, d⟩, _⟩ := I.tuple h
  obtain ⟨its', r', ⟨o', e', _, n', d'⟩, _⟩ := I.tuple h'
  rw [e] at e'; cases e'
  rw [d] at d'
  injection d' with d1 _
  have : its = its' := by simpa using congrArg Array.toList d1
  subst this
  exact r.inj r'
end

/-! ### another wish about exceptions -/
abbrev Cx.wish (X : Cx) (E : Value → Shared → Prop) : Cx := { X with xe := E }
/-- no exception leaves -/
abbrev Cx.nox (X : Cx) : Cx := X.wish fun _ _ => False
theorem Cx.Ok.wish {X : Cx} (ok : X.Ok) (E : Value → Shared → Prop) : (X.wish E).Ok :=
  ⟨ok.mod, ok.kind, ok.glob, ok.blt, ok.above, ok.inj, ok.has, ok.cab, ok.hd, ok.frames, ok.stk, ok.exf, ok.bs, ok.bsz, ok.noex, ok.exfs, ok.funs, ok.frf⟩
theorem Cx.Ok.unwish {X : Cx} {E : Value → Shared → Prop} (ok : (X.wish E).Ok) : X.Ok :=
  ⟨ok.mod, ok.kind, ok.glob, ok.blt, ok.above, ok.inj, ok.has, ok.cab, ok.hd, ok.frames, ok.stk, ok.exf, ok.bs, ok.bsz, ok.noex, ok.exfs, ok.funs, ok.frf⟩
section
variable {X : Cx} {pins : List (Addr × Obj)} {σ : St} {H : Hp} {s : Shared} {E : Value → Shared → Prop}
theorem Inv.wish (I : Inv X pins σ H s) (E : Value → Shared → Prop) : Inv (X.wish E) pins σ H s := ⟨I.ok.wish E, I.os, I.bare, I.base, I.loc, I.cell, I.free, I.freeC, I.pin, I.hok, I.len⟩
theorem Inv.unwish (I : Inv (X.wish E) pins σ H s) : Inv X pins σ H s := ⟨I.ok.unwish, I.os, I.bare, I.base, I.loc, I.cell, I.free, I.freeC, I.pin, I.hok, I.len⟩
theorem SP.unwish {D : Ends} {f : Flow} {s' : Shared} (h : SP (X.wish E) pins D f s') : SP X pins D f s' := by
  cases f with
  | next => obtain ⟨σ', H', I, q⟩ := h; exact ⟨σ', H', I.unwish, q⟩
  | brk => obtain ⟨σ', H', I, q⟩ := h; exact ⟨σ', H', I.unwish, q⟩
  | cont => obtain ⟨σ', H', I, q⟩ := h; exact ⟨σ', H', I.unwish, q⟩
  | ret u => obtain ⟨v, σ', H', I, r, q⟩ := h; exact ⟨v, σ', H', I.unwish, r, q⟩
theorem PE.nox {e : Expr} {t : TE} (h : PE X.nox e t) : PE X e t := fun pins s σ H Q I hw =>
  wpAny_mono (h pins s σ H Q (I.wish _) hw) (fun _ _ ⟨v, H', I', r, q⟩ => ⟨v, H', I'.unwish, r, q⟩) fun _ _ z => False.elim z
theorem PT.nox {e : Expr} {t : TT} (h : PT X.nox e t) : PT X e t := fun pins s σ H Q I hw =>
  wpAny_mono (h pins s σ H Q (I.wish _) hw) (fun _ _ ⟨H', I', q⟩ => ⟨H', I'.unwish, q⟩) fun _ _ z => False.elim z
theorem PSs.nox {st : List Stmt} {t : TS} (h : PSs X.nox st t) : PSs X st t := fun pins s σ H D I hw =>
  wpAny_mono (h pins s σ H D (I.wish _) hw) (fun _ _ q => q.unwish) fun _ _ z => False.elim z
end

/-! ### blocks and small statements -/
section
variable {X : Cx} {st : Stmt} {rest : List Stmt} {t u : TS} {e : Expr} {te : TE} {pos : Pos}
def tNext : TS := fun D σ H => D.nx σ H
def tSeq (t u : TS) : TS := fun D σ H => t { D with nx := u D } σ H
theorem pss_nil : PSs X [] tNext := fun _ _ σ H _ I h => wpAny_execs_nil ⟨σ, H, I, h⟩
theorem pss_cons (h1 : PS X st t) (h2 : PSs X rest u) : PSs X (st :: rest) (tSeq t u) := by
  intro pins s σ H D I h
  refine wpAny_execs_cons (thn (h1 pins s σ H { D with nx := u D } I h) fun f s1 q => ?_)
  cases f with
  | next =>
    obtain ⟨σ', H', I', q⟩ := q
    exact h2 pins s1 σ' H' D I' q
  | ret v => exact q
  | brk => exact q
  | cont => exact q
theorem pss_one (h1 : PS X st t) : PSs X [st] t := by
  intro pins s σ H D I h
  refine wpAny_execs_cons (thn (h1 pins s σ H D I h) fun f s1 q => ?_)
  cases f with
  | next => exact wpAny_execs_nil q
  | ret v => exact q
  | brk => exact q
  | cont => exact q
/-- in a def's body nothing is shown -/
theorem Inv.quiet {pins : List (Addr × Obj)} {σ : St} {H : Hp} {s : Shared} (I : Inv X pins σ H s) : interactive X.env = false := by simp [interactive, I.ok.kind]
/-- an expression whose value is dropped -/
def tDrop (te : TE) : TS := fun D σ H => te σ H fun _ H1 => D.nx σ H1
theorem ps_expr (he : PE X e te) (hs : swapsWith e none pos.line X.env = pure false := by rfl) : PS X (.Expr e pos) (tDrop te) := by
  intro pins s σ H D I h
  exact wpAny_Expr_any (thn (he pins s σ H _ I h) fun v s1 ⟨x, H1, I1, r1, q1⟩ => ⟨σ, H1, I1, q1⟩) I.quiet hs
def tRet (te : TE) : TS := fun D σ H => te σ H D.rt
theorem ps_ret (he : PE X e te) : PS X (.Return (some e) pos) (tRet te) := by
  intro pins s σ H D I h
  exact wpAny_Return_some (thn (he pins s σ H _ I h) fun v s1 ⟨x, H1, I1, r1, q1⟩ => ⟨x, σ, H1, I1, r1, q1⟩)
def tRetN : TS := fun D _ H => D.rt .non H
def tIfS (c : TT) (t u : TS) : TS := fun D σ H => c σ H fun b H1 => if b = true then t D σ H1 else u D σ H1
theorem ps_if {c : Expr} {a b : List Stmt} {tc : TT} (hc : PT X c tc) (ha : PSs X a t) (hb : PSs X b u) : PS X (.If c a b pos) (tIfS tc t u) := by
  intro pins s σ H D I h
  refine wpAny_If (thn (hc pins s σ H _ I h) fun d s1 ⟨H1, I1, q1⟩ => ?_)
  cases d with
  | true => exact ha pins s1 σ H1 D I1 q1
  | false => exact hb pins s1 σ H1 D I1 q1
/-- code that the proof never comes to -/
def tNever : TS := fun _ _ _ => False
theorem ps_never : PS X st tNever := fun _ _ _ _ _ _ h => h.elim
end

/-! ### targets -/
abbrev TG := V → St → Hp → (St → Hp → Prop) → Prop
abbrev TGs := List V → St → Hp → (St → Hp → Prop) → Prop
def PG (X : Cx) (target : Expr) (t : TG) : Prop :=
  ∀ (pins : List (Addr × Obj)) (s : Shared) (σ : St) (H : Hp) (v : V) (u : Value) (Q : St → Hp → Prop), Inv X pins σ H s → RelV v u → t v σ H Q →
    wpAny (model X.prog X.w) X.A (assign target X.env u) (fun _ s' => ∃ σ' H', Inv X pins σ' H' s' ∧ Q σ' H') X.xe s
/-- several targets, one after another -/
def PGs (X : Cx) (ts : List Expr) (t : TGs) : Prop :=
  ∀ (pins : List (Addr × Obj)) (s : Shared) (σ : St) (H : Hp) (vs : List V) (us : List Value) (Q : St → Hp → Prop), Inv X pins σ H s → Vals vs us → t vs σ H Q →
    wpAny (model X.prog X.w) X.A (assignInOrder ((assignEach ts X.env).map (·.2)) us) (fun _ s' => ∃ σ' H', Inv X pins σ' H' s' ∧ Q σ' H') X.xe s
section
variable {X : Cx} {pos : Pos}
def gName (i : Nat) : TG := fun v σ H Q => Q (σ.set i (some v)) H
theorem pg_name {i : Nat} {x : Str} (hN : X.N.Nodup) (hi : X.N[i]? = some x) (hx : Loc X.env.scope x) (hf : X.fn x = true ∨ X.env.scope.names.lookup x = some .local := by first | exact .inl rfl | exact .inr rfl | assumption) : PG X (.Name x pos) (gName i) := by
  intro pins s σ H v u Q I r h
  exact wpAny_assign_Name (store_ok I hN hi hx r (fun s' I' => ⟨_, H, I', h⟩) hf)
def gNil : TGs := fun vs σ H Q => vs = [] ∧ Q σ H
def gCons (t : TG) (u : TGs) : TGs := fun vs σ H Q => ∃ v r, vs = v :: r ∧ t v σ H fun σ' H' => u r σ' H' Q
theorem pgs_nil : PGs X [] gNil := by
  intro pins s σ H vs us Q I r h
  obtain ⟨e, h⟩ := h
  subst e
  cases r
  exact assignInOrder_nil ⟨σ, H, I, h⟩
theorem pgs_cons {e : Expr} {es : List Expr} {t : TG} {u : TGs} (h1 : PG X e t) (h2 : PGs X es u)
    (hs : (assignEach (e :: es) X.env).map (·.2) = assign e X.env :: (assignEach es X.env).map (·.2) := by rfl) : PGs X (e :: es) (gCons t u) := by
  intro pins s σ H vs us Q I r h
  obtain ⟨v, vr, e1, h⟩ := h
  subst e1
  cases r with
  | cons r rr =>
    rw [hs]
    refine assignInOrder_cons (thn (h1 pins s σ H _ _ _ I r h) fun _ s1 ⟨σ1, H1, I1, q1⟩ => ?_)
    exact h2 pins s1 σ1 H1 _ _ Q I1 rr q1
/-- (a, b, ..) = a tuple of that length -/
def gTup (K : PySem.W.Frag) (n : Nat) (t : TGs) : TG := fun v σ H Q => ∃ a xs, v = .ref a ∧ SqT K H a xs ∧ xs.length = n ∧ t xs σ H Q
theorem pg_tup {es : List Expr} {k : Nat} {t : TGs} {n : Nat} (hc : X.calm = true) (h : PGs X es t)
    (hn : (assignEach es X.env).length = n := by rfl) (hst : (assignEach es X.env).findIdx? (·.1) = none := by rfl) : PG X (.Tuple es k pos) (gTup X.K n t) := by
  intro pins s σ H v u Q I r hw
  obtain ⟨a, xs, e1, hq, hl, hw⟩ := hw
  subst e1
  cases r
  obtain ⟨its, rv, ht, hz⟩ := I.tuple hq
  refine assign_Tuple_tuple (I.ok.hd hc) ht (by simp [hn, ← hl, rv.length]) hst fun h' hx => ?_
  have I1 : Inv X pins σ H { s with heap := h' } := I.kept (t' := s.toks) fun b o e => hx b o (Nat.ne_of_lt (Heap.lt_size e)) e
  exact h pins _ σ H xs _ Q I1 (by simpa using rv) hw
/-- target = value -/
def tAsg (te : TE) (g : TG) : TS := fun D σ H => te σ H fun x H1 => g x σ H1 D.nx
theorem ps_asg {tg e : Expr} {te : TE} {g : TG} (he : PE X e te) (hg : PG X tg g) (hs : swapsWithSole [tg] e pos.line X.env = pure false := by rfl) (hw : swappedStores [tg] e X.env = pure none := by rfl)
    (h1 : (assignEach [tg] X.env).map (·.2) = [assign tg X.env] := by rfl) : PS X (.Assign [tg] e pos) (tAsg te g) := by
  intro pins s σ H D I h
  refine wpAny_Assign_stores (thn (he pins s σ H _ I h) fun v s1 ⟨x, H1, I1, r1, q1⟩ => ?_) hs hw
  rw [h1]
  exact thn (hg pins s1 σ H1 x v _ I1 r1 q1) fun _ s2 q => q
/-- name = value -/
theorem ps_set {i : Nat} {x : Str} {e : Expr} {te : TE} {pos' : Pos} (hN : X.N.Nodup) (hi : X.N[i]? = some x) (hx : Loc X.env.scope x) (he : PE X e te) (hs : swapsWith e (some (.Name x pos')) pos.line X.env = pure false := by rfl) (hf : X.fn x = true ∨ X.env.scope.names.lookup x = some .local := by first | exact .inl rfl | exact .inr rfl | assumption) :
    PS X (.Assign [.Name x pos'] e pos) (tAsg te (gName i)) := by
  intro pins s σ H D I h
  refine wpAny_Assign_Name (thn (he pins s σ H _ I h) fun v s1 ⟨y, H1, I1, r1, q1⟩ => ?_) hs
  exact store_ok I1 hN hi hx r1 (fun s2 I2 => ⟨_, H1, I2, q1⟩) hf
/-- a, b = x, y with plain local names: stored from the right; the pair itself is not tracked (the opening rows as in PyProof/Rows/TupAssign.lean:23) -/
def tPar (i j : Nat) (ta : TA) : TS := fun D σ H => ta σ H fun vs H1 => ∃ v w, vs = [v, w] ∧ D.nx ((σ.set i (some v)).set j (some w)) H1
theorem ps_par {i j : Nat} {x y : Str} {a b : Expr} {ta : TA} {px py pt : Pos} {kt k2 pt2} (hc : X.calm = true) (hN : X.N.Nodup) (hi : X.N[i]? = some x) (hj : X.N[j]? = some y) (hij : i ≠ j)
    (hx : X.env.scope.names.lookup x = some .local) (hy : X.env.scope.names.lookup y = some .local) (ha : PA X [a, b] ta)
    (hw : swappedStores [.Tuple [.Name x px, .Name y py] kt pt] (.Tuple [a, b] k2 pt2) X.env = pure (some [x, y]))
    (hs : swapsWithSole [.Tuple [.Name x px, .Name y py] kt pt] (.Tuple [a, b] k2 pt2) pos.line X.env = pure false := by rfl) :
    PS X (.Assign [.Tuple [.Name x px, .Name y py] kt pt] (.Tuple [a, b] k2 pt2) pos) (tPar i j ta) := by
  intro pins s σ H D I h
  rw [exec_Assign_arm]
  refine wpAny_bind (wpAny_standAt ?_)
  rw [hs]
  refine wpAny_bind (wpAny_pure ?_)
  rw [if_neg (by decide)]
  refine wpAny_bind (Tuple_ (thn (ha _ pins s σ H _ I h) fun us s1 ⟨vs, H1, I1, r1, q1⟩ => ?_))
  obtain ⟨v, w, e1, q1⟩ := q1
  subst e1
  obtain ⟨u1, u2, rfl, rv, rw'⟩ : ∃ u1 u2, us = [u1, u2] ∧ RelV v u1 ∧ RelV w u2 := by
    cases r1 with
    | cons p q =>
      cases q with
      | cons p' q' =>
        cases q'
        exact ⟨_, _, rfl, p, p'⟩
  refine wpAny_newObj_type ?_ (by show 2 ≤ sizeLine; decide)
  have I2 : Inv X pins σ H1 { s1 with heap := s1.heap.push { cls := .type "tuple", data := .seq [u1, u2].toArray } } := I1.kept (t' := s1.toks) fun b o e => Heap.get?_push_of_some _ e
  rw [hw]
  refine wpAny_bind (wpAny_pure ?_)
  show wpAny (model X.prog X.w) X.A (do rule "assign.swapped-stores"; let items ← unpackItems (.ref s1.heap.objs.size) 2 none; assignInOrder [fun v => bindName X.env y v, fun v => bindName X.env x v] items.reverse; pure Flow.next) _ _ _
  refine wpAny_bind (wpAny_rule (wpAny_bind (unpackItems_tuple (items := #[u1, u2]) (I.ok.hd hc) (IsTup.new s1.heap _) fun h' hx' => ?_)))
  have I3 := I2.kept (h' := h') (t' := s1.toks) fun b o e => hx' b o (Nat.ne_of_lt (Heap.lt_size e)) e
  show wpAny _ _ (assignInOrder [fun v => bindName X.env y v, fun v => bindName X.env x v] [u2, u1] >>= fun _ => pure Flow.next) _ _ _
  refine wpAny_bind (assignInOrder_cons (wpAny_bindName (store_ok I3 hN hj (.inl hy) rw' (fun s2 I4 => ?_) (.inr hy))))
  refine assignInOrder_cons (wpAny_bindName (store_ok I4 hN hi (.inl hx) rv (fun s3 I5 => assignInOrder_nil (wpAny_pure ?_)) (.inr hx)))
  rw [List.set_comm _ _ (Ne.symm hij)] at I5
  exact ⟨_, H1, I5, q1⟩
end

/-! ### while -/
section
variable {X : Cx} {pos : Pos}
/-- the invariant W with its measure -/
def tWhile (c : TT) (tb : TS) : TS := fun D σ H => ∃ W : Nat → St → Hp → Prop, (∃ m, W m σ H) ∧ ∀ m σ H, W m σ H →
  c σ H fun b H1 => if b = true then ∃ N : St → Hp → Prop, (∀ σ' H', N σ' H' → ∃ m', m' < m ∧ W m' σ' H') ∧ tb { D with nx := N, ct := N, bk := D.nx } σ H1 else D.nx σ H1
theorem ps_while {c : Expr} {body : List Stmt} {tc : TT} {tb : TS} (hp : PassesOwn (model X.prog X.w) X.A X.env X.xe) (hc : PT X c tc) (hb : PSs X body tb) : PS X (.While c body [] pos) (tWhile tc tb) := by
  intro pins s σ H D I h
  obtain ⟨W, ⟨m0, w0⟩, turn⟩ := h
  refine wpAny_While (codeAny_whileLoop (fun n s' => ∃ σ' H', Inv X pins σ' H' s' ∧ W n σ' H') ?_ m0 ⟨σ, H, I, w0⟩)
  rintro n s1 ⟨σ1, H1, I1, w1⟩
  refine wpAny_passesOwn hp (thn (hc pins s1 σ1 H1 _ I1 (turn n σ1 H1 w1)) fun b s2 ⟨H2, I2, q2⟩ => ?_)
  cases b with
  | true =>
    obtain ⟨N, hN, q2⟩ := q2
    rw [if_pos rfl]
    refine wpAny_passesOwn hp (thn (hb pins s2 σ1 H2 _ I2 q2) fun f s3 q3 => ?_)
    cases f with
    | next =>
      obtain ⟨σ3, H3, I3, n3⟩ := q3
      obtain ⟨m', hm, w3⟩ := hN σ3 H3 n3
      exact ⟨m', hm, σ3, H3, I3, w3⟩
    | cont =>
      obtain ⟨σ3, H3, I3, n3⟩ := q3
      obtain ⟨m', hm, w3⟩ := hN σ3 H3 n3
      exact ⟨m', hm, σ3, H3, I3, w3⟩
    | brk => exact q3
    | ret v => exact q3
  | false =>
    rw [if_neg Bool.false_ne_true]
    exact wpAny_execs_nil ⟨σ1, H2, I2, q2⟩
end

/-! ### what a loop or a comprehension walks -/
/-- at turn i: it yields x (the heap may grow), or it stops -/
structure It where
  go : Nat → Hp → Prop
  yld : Nat → Hp → V → Hp → Prop
  stop : Nat → Hp → Prop
/-- the iterator's own objects may turn: they are not the frame's, not pinned, younger than the entry (or a comprehension's own) -/
def FpOk (X : Cx) (pins : List (Addr × Obj)) (H : Hp) (b : Addr) : Prop :=
  H b = none ∧ b ≠ X.env.locals ∧ b ∉ X.fs ∧ (b ∈ X.ex ∨ X.s₀.heap.objs.size ≤ b) ∧ (∀ x c, X.env.cells.lookup x = some c → c ≠ b) ∧ ∀ p ∈ X.pn ++ pins, p.1 ≠ b
theorem Inv.fpOk {X : Cx} {pins : List (Addr × Obj)} {σ : St} {H H' : Hp} {s : Shared} {b : Addr} (I : Inv X pins σ H s) (hb : s.heap.objs.size ≤ b) (hn : H' b = none) : FpOk X pins H' b := by
  refine ⟨hn, Nat.ne_of_gt (Nat.lt_of_lt_of_le I.lt hb), I.nofs hb, .inr (Nat.le_trans I.sz hb), fun x c e z => ?_, fun p hp z => ?_⟩
  · obtain ⟨v, q⟩ := I.cell x c e
    exact absurd (Nat.lt_of_lt_of_le q.lt (by rw [z]; exact hb)) (Nat.lt_irrefl _)
  · exact absurd (Nat.lt_of_lt_of_le (Heap.lt_size (I.pin p hp).1) (by rw [z]; exact hb)) (Nat.lt_irrefl _)
structure Turn (P : Program) (w : World) (K : PySem.W.Frag) (tg : Expr) (J : It) (fp : List Addr) (it : Addr) (tn : Nat → Heap → Prop) : Prop where
  mem : it ∈ fp
  obj : ∀ i h, tn i h → ∀ b ∈ fp, ∃ o, h.get? b = some o ∧ ∀ v, o.data ≠ .cell v
  keep : ∀ i h h', tn i h → (∀ b ∈ fp, ∀ o, h.get? b = some o → h'.get? b = some o) → tn i h'
  item : ∀ (X : Cx), X.prog = P → X.w = w → X.K = K → X.calm = true → ∀ (i : Nat) (pins : List (Addr × Obj)) (s : Shared) (σ : St) (H : Hp) (E : Value → Shared → Prop), Inv X pins σ H s → (∀ b ∈ fp, FpOk X pins H b) → tn i s.heap → J.go i H →
    wpAny (model P w) X.A (pyNext (.ref it)) (fun r s1 => ∃ u, r = some u ∧
      wpAny (model P w) X.A (letOwnedTupleGo tg (.ref it) u) (fun _ s2 => ∃ x H', Inv X pins σ H' s2 ∧ RelV x u ∧ J.yld i H x H' ∧ tn (i + 1) s2.heap ∧ ∀ b ∈ fp, H' b = none) E s1) E s
  done : ∀ (X : Cx), X.prog = P → X.w = w → X.K = K → X.calm = true → ∀ (i : Nat) (pins : List (Addr × Obj)) (s : Shared) (σ : St) (H : Hp) (E : Value → Shared → Prop), Inv X pins σ H s → (∀ b ∈ fp, FpOk X pins H b) → tn i s.heap → J.stop i H →
    wpAny (model P w) X.A (pyNext (.ref it)) (fun r s1 => r = none ∧ Inv X pins σ H s1) E s
  self : ∀ (A : Around) (i : Nat) (s : Shared) (Q : Value → Shared → Prop) (E : Value → Shared → Prop), tn i s.heap → Q (.ref it) s → wpAny (model P w) A (pyIter (.ref it)) Q E s
abbrev TI := St → Hp → (It → Hp → Prop) → Prop
/-- an iterator has come -/
def PIE (X : Cx) (pins : List (Addr × Obj)) (σ : St) (tg : Expr) (R : It → Hp → Prop) (itv : Value) (s2 : Shared) : Prop :=
  ∃ (it : Addr) (fp : List Addr) (tn : Nat → Heap → Prop) (J : It) (H' : Hp), itv = .ref it ∧ Inv X pins σ H' s2 ∧ Turn X.prog X.w X.K tg J fp it tn ∧ tn 0 s2.heap ∧ (∀ b ∈ fp, FpOk X pins H' b) ∧ R J H'
def PI (X : Cx) (tg iter : Expr) (wi : TI) : Prop :=
  ∀ (pins : List (Addr × Obj)) (s : Shared) (σ : St) (H : Hp) (R : It → Hp → Prop), Inv X pins σ H s → wi σ H R →
    wpAny (model X.prog X.w) X.A (eval iter X.env) (fun v s1 => wpAny (model X.prog X.w) X.A (pyIter v) (PIE X pins σ tg R) X.xe s1) X.xe s

/-- the step ahead of the store is nothing for an iterator that keeps no tuple -/
theorem go_of {M : Model} {A : Around} {E : Value → Shared → Prop} {s : Shared} {tg : Expr} {it : Addr} {u : Value} {o : Obj} {n : String} {vs : Array Value} {Q : Unit → Shared → Prop} (ho : s.heap.get? it = some o) (hc : o.cls = .type n) (hd : o.data = .fields vs)
    (hn : ["enumerate", "zip", "dict_itemiterator", "dict_reverseitemiterator", "odict_iterator", "itertools.zip_longest", "itertools.pairwise"].contains n = false) (hQ : Q () s) : wpAny M A (letOwnedTupleGo tg (.ref it) u) Q E s := by
  unfold letOwnedTupleGo
  cases tg <;> first
    | exact wpAny_pure hQ
    | (cases u <;> first
        | exact wpAny_pure hQ
        | (refine wpAny_bind (wpAny_load ho ?_)
           rw [hc, hd]
           show wpAny M A (if (["enumerate", "zip", "dict_itemiterator", "dict_reverseitemiterator", "odict_iterator", "itertools.zip_longest", "itertools.pairwise"].contains n && vs[0]? == some (rawInt _)) = true then _ else _) Q E s
           rw [if_neg (by intro h; rw [hn, Bool.false_and] at h; cases h)]
           exact wpAny_pure hQ))

/-- the list at a, as it stands at each turn (a loop may append to it) -/
def Itl (K : PySem.W.Frag) (a : Addr) : It :=
  ⟨fun i H => ∃ xs x, SqL K H a xs ∧ xs[i]? = some x, fun i H x H' => H' = H ∧ ∀ xs, SqL K H a xs → xs[i]? = some x, fun i H => ∃ xs, SqL K H a xs ∧ xs.length ≤ i⟩
def Itt (K : PySem.W.Frag) (a : Addr) : It :=
  ⟨fun i H => ∃ xs x, SqT K H a xs ∧ xs[i]? = some x, fun i H x H' => H' = H ∧ ∀ xs, SqT K H a xs → xs[i]? = some x, fun i H => ∃ xs, SqT K H a xs ∧ xs.length ≤ i⟩
/-- lo, lo + 1, .. (n of them) -/
def Itr (lo : Int) (n : Nat) : It := ⟨fun i _ => i < n, fun i H x H' => H' = H ∧ x = .int (lo + i), fun i _ => n ≤ i⟩
theorem turn_list {P : Program} {w : World} {K : PySem.W.Frag} {tg : Expr} (a it : Addr) : Turn P w K tg (Itl K a) [it] it (fun i h => h.IsListIter it a i) where
  mem := by simp
  obj := fun i h st b hb => by
    have e : b = it := by simpa using hb
    subst e
    obtain ⟨o, e, c, d⟩ := st
    exact ⟨o, e, fun v z => by rw [d] at z; cases z⟩
  keep := fun i h h' st k => st.at fun o e => k it (by simp) o e
  item := by
    intro X hP hw hK hc i pins s σ H E I hf st hg
    subst hP hw hK
    obtain ⟨xs, x, hq, hx⟩ := hg
    obtain ⟨its, rv, p, hz⟩ := I.list hq
    obtain ⟨u, hu, ru⟩ := rv.get hx
    obtain ⟨f0, f1, f2, f3, f4, f5⟩ := hf it (by simp)
    refine wpAny_pyNext_list_item st p.isList (x := u) (by simpa using hu) fun h' st' sb => ?_
    have I1 : Inv X pins σ H { s with heap := h' } := I.turned (t' := s.toks) (fun b o hb e => (sb.2 b hb).trans e) f0 f1 f3 f4 f5
    obtain ⟨o, e, c, d⟩ := id st'
    exact ⟨u, rfl, go_of (s := { s with heap := h' }) e c d (by decide) ⟨x, H, I1, ru, ⟨rfl, fun ys hy => by rw [I.list_inj hy hq]; exact hx⟩, st', fun b hb => (hf b hb).1⟩⟩
  done := by
    intro X hP hw hK hc i pins s σ H E I hf st hg
    subst hP hw hK
    obtain ⟨xs, hq, hx⟩ := hg
    obtain ⟨its, rv, p, hz⟩ := I.list hq
    obtain ⟨f0, f1, f2, f3, f4, f5⟩ := hf it (by simp)
    have hl := rv.length
    exact wpAny_pyNext_list_end (I.ok.hd hc) st p.isList (by simp; omega) fun h' eb => ⟨rfl, I.turned (t' := s.toks) (fun b o hb e => eb b o hb e) f0 f1 f3 f4 f5⟩
  self := fun _ _ _ _ _ st h => wpAny_pyIter_listiter st h
theorem turn_tuple {P : Program} {w : World} {K : PySem.W.Frag} {tg : Expr} (a it : Addr) : Turn P w K tg (Itt K a) [it] it (fun i h => h.IsTupleIter it a i) where
  mem := by simp
  obj := fun i h st b hb => by
    have e : b = it := by simpa using hb
    subst e
    obtain ⟨o, e, c, d⟩ := st
    exact ⟨o, e, fun v z => by rw [d] at z; cases z⟩
  keep := fun i h h' st k => st.at fun o e => k it (by simp) o e
  item := by
    intro X hP hw hK hc i pins s σ H E I hf st hg
    subst hP hw hK
    obtain ⟨xs, x, hq, hx⟩ := hg
    obtain ⟨its, rv, p, hz⟩ := I.tuple hq
    obtain ⟨u, hu, ru⟩ := rv.get hx
    obtain ⟨f0, f1, f2, f3, f4, f5⟩ := hf it (by simp)
    refine wpAny_pyNext_tuple_item st (show s.heap.IsTuple a its.toArray from p) (x := u) (by simpa using hu) fun h' st' sb => ?_
    have I1 : Inv X pins σ H { s with heap := h' } := I.turned (t' := s.toks) (fun b o hb e => (sb.2 b hb).trans e) f0 f1 f3 f4 f5
    obtain ⟨o, e, c, d⟩ := id st'
    exact ⟨u, rfl, go_of (s := { s with heap := h' }) e c d (by decide) ⟨x, H, I1, ru, ⟨rfl, fun ys hy => by rw [I.tuple_inj hy hq]; exact hx⟩, st', fun b hb => (hf b hb).1⟩⟩
  done := by
    intro X hP hw hK hc i pins s σ H E I hf st hg
    subst hP hw hK
    obtain ⟨xs, hq, hx⟩ := hg
    obtain ⟨its, rv, p, hz⟩ := I.tuple hq
    obtain ⟨f0, f1, f2, f3, f4, f5⟩ := hf it (by simp)
    have hl := rv.length
    exact wpAny_pyNext_tuple_end (I.ok.hd hc) st (show s.heap.IsTuple a its.toArray from p) (by simp; omega) fun h' eb => ⟨rfl, I.turned (t' := s.toks) (fun b o hb e => eb b o hb e) f0 f1 f3 f4 f5⟩
  self := fun _ _ _ _ _ st h => wpAny_pyIter_tupleiter st h
theorem turn_range {P : Program} {w : World} {K : PySem.W.Frag} {tg : Expr} (it : Addr) (lo : Int) (n : Nat) : Turn P w K tg (Itr lo n) [it] it (fun i h => IsRangeIter h it (lo + (i : Nat) * 1) ((n : Int) - (i : Nat)) 1) where
  mem := by simp
  obj := fun i h st b hb => by
    have e : b = it := by simpa using hb
    subst e
    exact ⟨_, st, fun v z => by
      have z' : Data.fields _ = Data.cell v := z
      cases z'⟩
  keep := fun i h h' st k => k it (by simp) _ st
  item := by
    intro X hP hw hK hc i pins s σ H E I hf st hg
    subst hP hw hK
    obtain ⟨f0, f1, f2, f3, f4, f5⟩ := hf it (by simp)
    have W := Walks.range (prog := X.prog) (w := X.w) (I.ok.hd hc) it lo 1 n
    refine W.item i s _ _ hg st fun v h' tk hv st' kk => ?_
    obtain ⟨t, rfl⟩ := hv
    have I1 : Inv X pins σ H { s with heap := h', toks := tk } := I.turned (fun b o hb e => kk b o (by simpa using hb) e) f0 f1 f3 f4 f5
    refine ⟨_, rfl, go_of (s := { s with heap := h', toks := tk }) (n := "range_iterator") st' rfl rfl (by decide) ⟨.int (lo + i), H, I1, ⟨t, ?_⟩, ⟨rfl, rfl⟩, st', fun b hb => (hf b hb).1⟩⟩
    rw [Int.mul_one]
  done := by
    intro X hP hw hK hc i pins s σ H E I hf st hg
    subst hP hw hK
    obtain ⟨f0, f1, f2, f3, f4, f5⟩ := hf it (by simp)
    exact wpAny_pyNext_range_end (I.ok.hd hc) st (by have : n ≤ i := hg; omega) fun h' eb => ⟨rfl, I.turned (t' := s.toks) (fun b o hb e => eb b o hb e) f0 f1 f3 f4 f5⟩
  self := fun _ _ _ _ _ st h => wpAny_pyIter_rangeiter st h
end L2

namespace L2
open PySem PySem.Spec PyProof.Rows
section
variable {X : Cx} {tg : Expr}
def iList (K : PySem.W.Frag) (tl : TE) : TI := fun σ H R => tl σ H fun x H1 => ∃ a, x = .ref a ∧ (∃ xs, SqL K H1 a xs) ∧ R (Itl K a) H1
def iTup (K : PySem.W.Frag) (tl : TE) : TI := fun σ H R => tl σ H fun x H1 => ∃ a, x = .ref a ∧ (∃ xs, SqT K H1 a xs) ∧ R (Itt K a) H1
theorem pi_list {l : Expr} {tl : TE} (hl : PE X l tl) : PI X tg l (iList X.K tl) := by
  intro pins s σ H R I h
  refine thn (hl pins s σ H _ I h) fun v s1 ⟨x, H1, I1, r1, q1⟩ => ?_
  obtain ⟨a, e, ⟨xs, hq⟩, q⟩ := q1
  subst e
  cases r1
  obtain ⟨its, rv, p, hz⟩ := I1.list hq
  refine wpAny_pyIter_list p.isList ?_
  refine ⟨s1.heap.objs.size, [s1.heap.objs.size], _, _, H1, rfl, I1.kept (t' := s1.toks) fun b o e => Heap.get?_push_of_some _ e, turn_list a _, ⟨_, Heap.get?_push_size _ rfl, rfl, rfl⟩, fun b hb => ?_, q⟩
  have e : b = s1.heap.objs.size := by simpa using hb
  subst e
  exact I1.fpOk (Nat.le_refl _) (I1.hok.fresh (Nat.le_refl _))
theorem pi_tup {l : Expr} {tl : TE} (hl : PE X l tl) : PI X tg l (iTup X.K tl) := by
  intro pins s σ H R I h
  refine thn (hl pins s σ H _ I h) fun v s1 ⟨x, H1, I1, r1, q1⟩ => ?_
  obtain ⟨a, e, ⟨xs, hq⟩, q⟩ := q1
  subst e
  cases r1
  obtain ⟨its, rv, p, hz⟩ := I1.tuple hq
  refine wpAny_pyIter_tuple (show s1.heap.IsTuple a its.toArray from p) ?_
  refine ⟨s1.heap.objs.size, [s1.heap.objs.size], _, _, H1, rfl, I1.kept (t' := s1.toks) fun b o e => Heap.get?_push_of_some _ e, turn_tuple a _, ⟨_, Heap.get?_push_size _ rfl, rfl, rfl⟩, fun b hb => ?_, q⟩
  have e : b = s1.heap.objs.size := by simpa using hb
  subst e
  exact I1.fpOk (Nat.le_refl _) (I1.hok.fresh (Nat.le_refl _))
/-- a range object just made, walked -/
theorem range_it {pins : List (Addr × Obj)} {σ : St} {H : Hp} {s : Shared} {R : It → Hp → Prop} {E : Value → Shared → Prop} {lo hi : Int} {t u v : Tok} {tk : Nat} (I : Inv X pins σ H s) (h1 : -(2 ^ 62) ≤ lo) (h2 : lo < 2 ^ 62) (h3 : -(2 ^ 62) ≤ hi) (h4 : hi < 2 ^ 62)
    (q : R (Itr lo (hi - lo).toNat) H) : wpAny (model X.prog X.w) X.A (pyIter (.ref s.heap.objs.size)) (PIE X pins σ tg R) E { s with heap := s.heap.push { cls := .type "range", data := .fields #[.int lo t, .int hi u, .int 1 v] }, toks := tk } := by
  refine wpAny_pyIter_range (IsRange.new ..) (small_one h1 h2 h3 h4) ?_
  have I1 : Inv X pins σ H { s with heap := s.heap.push { cls := .type "range", data := .fields #[.int lo t, .int hi u, .int 1 v] }, toks := tk } := I.kept fun b o e => Heap.get?_push_of_some _ e
  refine ⟨(s.heap.push { cls := .type "range", data := .fields #[.int lo t, .int hi u, .int 1 v] }).objs.size, [(s.heap.push { cls := .type "range", data := .fields #[.int lo t, .int hi u, .int 1 v] }).objs.size], _, _, H, rfl,
    I1.kept (t' := tk) fun b o e => Heap.get?_push_of_some _ e, turn_range _ lo (hi - lo).toNat, ?_, fun b hb => ?_, q⟩
  · have e1 : lo + ((0 : Nat) : Int) * 1 = lo := by simp
    have e2 : (((hi - lo).toNat : Nat) : Int) - ((0 : Nat) : Int) = Builtin.Range.rangeSize lo hi 1 := by rw [rangeSize_one]; split <;> omega
    show IsRangeIter _ _ (lo + ((0 : Nat) : Int) * 1) ((((hi - lo).toNat : Nat) : Int) - ((0 : Nat) : Int)) 1
    rw [e1, e2]
    exact Heap.get?_push_size _ rfl
  · have e : b = (s.heap.push { cls := .type "range", data := .fields #[.int lo t, .int hi u, .int 1 v] }).objs.size := by simpa using hb
    subst e
    exact I1.fpOk (Nat.le_refl _) (I1.hok.fresh (Nat.le_refl _))
def iRng1 (ta : TA) : TI := fun σ H R => ta σ H fun vs H1 => ∃ j : Int, vs = [.int j] ∧ -(2 ^ 62) ≤ j ∧ j < 2 ^ 62 ∧ R (Itr 0 j.toNat) H1
def iRng2 (ta : TA) : TI := fun σ H R => ta σ H fun vs H1 => ∃ i j : Int, vs = [.int i, .int j] ∧ (-(2 ^ 62) ≤ i ∧ i < 2 ^ 62 ∧ -(2 ^ 62) ≤ j ∧ j < 2 ^ 62) ∧ R (Itr i (j - i).toNat) H1
theorem pi_range1 {a : Expr} {ta : TA} {p pos : Pos} (hg : Gl X "range") (hm : X.mg "range" = none) (ha : PA X [a] ta) (hs : starEach [a] X.env = [(false, eval a X.env)] := by rfl) : PI X tg (.Call (.Name "range" p) [a] [] pos) (iRng1 ta) := by
  intro pins s σ H R I h
  refine Call_ (ld_blt I hg hm boot_range (PyProof.Rows.callWith_type1 (thn (ha pos pins s σ H _ I h) fun us s1 ⟨vs, H1, I1, r1, q1⟩ => ?_) hs rfl))
  obtain ⟨j, e, q1, q2, q⟩ := q1
  subst e
  cases r1 with
  | cons r rr =>
    cases rr
    obtain ⟨t, rfl⟩ := r
    exact call_range_1 (range_it I1 (by omega) (by omega) q1 q2 (by simpa using q))
theorem pi_range2 {a b : Expr} {ta : TA} {p pos : Pos} (hg : Gl X "range") (hm : X.mg "range" = none) (ha : PA X [a, b] ta) (hs : starEach [a, b] X.env = [(false, eval a X.env), (false, eval b X.env)] := by rfl) (hs2 : starEach [b] X.env = [(false, eval b X.env)] := by rfl) :
    PI X tg (.Call (.Name "range" p) [a, b] [] pos) (iRng2 ta) := by
  intro pins s σ H R I h
  refine Call_ (ld_blt I hg hm boot_range (PyProof.Rows.callWith_type1 (thn (ha pos pins s σ H _ I h) fun us s1 ⟨vs, H1, I1, r1, q1⟩ => ?_) (by rw [hs, hs2]) (by rw [hs2]; rfl)))
  obtain ⟨i, j, e, ⟨q1, q2, q3, q4⟩, q⟩ := q1
  subst e
  cases r1 with
  | cons r rr =>
    cases rr with
    | cons r' rr =>
      cases rr
      obtain ⟨t, rfl⟩ := r
      obtain ⟨t', rfl⟩ := r'
      exact call_range_2 (range_it I1 q1 q2 q3 q4 q)

/-! ### for -/
/-- W: the invariant by the turn and a measure; N: what the body is to reach -/
def tFor (wi : TI) (g : TG) (tb : TS) : TS := fun D σ H => wi σ H fun J H1 => ∃ W : Nat → Nat → St → Hp → Prop, (∃ m, W 0 m σ H1) ∧ ∀ i m σ H, W i m σ H →
  (J.stop i H ∧ D.nx σ H) ∨ (J.go i H ∧ ∃ N : St → Hp → Prop, (∀ σ' H', N σ' H' → ∃ m', m' < m ∧ W (i + 1) m' σ' H') ∧ ∀ x H', J.yld i H x H' → g x σ H' fun σ2 H2 => tb { D with nx := N, ct := N, bk := D.nx } σ2 H2)
/-- the records at fp as they stand -/
def pinsAt (fp : List Addr) (h : Heap) : List (Addr × Obj) := fp.filterMap fun b => (h.get? b).map fun o => (b, o)
theorem mem_pinsAt {fp : List Addr} {h : Heap} {b : Addr} {o : Obj} (hb : b ∈ fp) (e : h.get? b = some o) : (b, o) ∈ pinsAt fp h := List.mem_filterMap.mpr ⟨b, hb, by rw [e]; rfl⟩
theorem of_pinsAt {fp : List Addr} {h : Heap} {p : Addr × Obj} (hp : p ∈ pinsAt fp h) : p.1 ∈ fp ∧ h.get? p.1 = some p.2 := by
  obtain ⟨b, hb, e⟩ := List.mem_filterMap.mp hp
  cases q : h.get? b with
  | none => rw [q] at e; cases e
  | some o =>
    rw [q] at e
    have e' : (b, o) = p := Option.some.inj e
    subst e'
    exact ⟨hb, q⟩
theorem Inv.pinned {pins : List (Addr × Obj)} {σ : St} {H : Hp} {s : Shared} {fp : List Addr} (I : Inv X pins σ H s) (hf : ∀ b ∈ fp, FpOk X pins H b) (ho : ∀ b ∈ fp, ∃ o, s.heap.get? b = some o ∧ ∀ v, o.data ≠ .cell v) : Inv X (pins ++ pinsAt fp s.heap) σ H s :=
  I.pins_of fun p hp => (List.mem_append.mp hp).elim (fun z => I.pin p (List.mem_append_right _ z)) fun z => by
    obtain ⟨hb, e⟩ := of_pinsAt z
    obtain ⟨f0, f1, f2, _⟩ := hf p.1 hb
    obtain ⟨o, e', d⟩ := ho p.1 hb
    rw [e] at e'; cases e'
    exact ⟨e, f0, f1, f2, d⟩
theorem Inv.unpinned {pins pl : List (Addr × Obj)} {σ : St} {H : Hp} {s : Shared} (I : Inv X (pins ++ pl) σ H s) : Inv X pins σ H s := I.pins_of fun p hp => I.pin p (List.mem_append_right _ (List.mem_append_left _ hp))
theorem ps_for {iter : Expr} {body : List Stmt} {wi : TI} {g : TG} {tb : TS} {pos : Pos} (hp : PassesOwn (model X.prog X.w) X.A X.env X.xe) (hc : X.calm = true) (hi : PI X tg iter wi) (hg : PG X tg g) (hb : PSs X body tb)
    (hs : ∀ x, foldedSetIterable iter X.env x = pure x := by intro _; rfl) : PS X (.For tg iter body [] pos) (tFor wi g tb) := by
  intro pins s σ H D I h
  refine wpAny_For (thn (hi pins s σ H _ I h) fun v s1 h1 => thn h1 fun itv s2 h2 => ?_) hs
  obtain ⟨it, fp, tn, J, H2, e, I2, T, st2, f2, W, ⟨m0, w0⟩, turn⟩ := h2
  subst e
  -- what stays true of the iterator's objects through the loop
  have stat : ∀ {H' : Hp}, (∀ b ∈ fp, H' b = none) → ∀ b ∈ fp, FpOk X pins H' b := fun hn b hb => ⟨hn b hb, (f2 b hb).2⟩
  refine codeAny_forLoop_any (fun n s' => ∃ i σ' H', Inv X pins σ' H' s' ∧ tn i s'.heap ∧ (∀ b ∈ fp, H' b = none) ∧ W i n σ' H') ?_ m0 ⟨0, σ, H2, I2, st2, fun b hb => (f2 b hb).1, w0⟩
  rintro n s3 ⟨i, σ3, H3, I3, st3, fr3, w3⟩
  rcases turn i n σ3 H3 w3 with ⟨stop, qn⟩ | ⟨go, N, hN, step⟩
  · refine wpAny_passesOwn hp (thn (T.done X rfl rfl rfl hc i pins s3 σ3 H3 X.xe I3 (stat fr3) st3 stop) fun r s4 ⟨hr, I4⟩ => ?_)
    subst hr
    exact wpAny_execs_nil ⟨σ3, H3, I4, qn⟩
  · refine wpAny_passesOwn hp (thn (T.item X rfl rfl rfl hc i pins s3 σ3 H3 X.xe I3 (stat fr3) st3 go) fun r s4 ⟨u, hr, h4⟩ => ?_)
    subst hr
    refine wpAny_passesOwn hp (thn h4 fun _ s5 ⟨x, H5, I5, r5, y5, st5, fr5⟩ => ?_)
    have I5' := I5.pinned (stat fr5) (T.obj _ _ st5)
    refine wpAny_passesOwn hp (thn (hg _ s5 σ3 H5 x u _ I5' r5 (step x H5 y5)) fun _ s6 ⟨σ6, H6, I6, q6⟩ => ?_)
    refine wpAny_passesOwn hp (thn (hb _ s6 σ6 H6 _ I6 q6) fun f s7 q7 => ?_)
    have again : ∀ {σ7 : St} {H7 : Hp}, Inv X (pins ++ pinsAt fp s5.heap) σ7 H7 s7 → N σ7 H7 → ∃ m, m < n ∧ ∃ i σ' H', Inv X pins σ' H' s7 ∧ tn i s7.heap ∧ (∀ b ∈ fp, H' b = none) ∧ W i m σ' H' := fun {σ7 H7} I7 n7 => by
      obtain ⟨m', hm, w7⟩ := hN σ7 H7 n7
      refine ⟨m', hm, i + 1, σ7, H7, I7.unpinned, T.keep _ _ _ st5 fun b hb o e => (I7.pin (b, o) (List.mem_append_right _ (List.mem_append_right _ (mem_pinsAt hb e)))).1, fun b hb => ?_, w7⟩
      obtain ⟨o, e, d⟩ := T.obj _ _ st5 b hb
      exact (I7.pin (b, o) (List.mem_append_right _ (List.mem_append_right _ (mem_pinsAt hb e)))).2.1
    cases f with
    | next => obtain ⟨σ7, H7, I7, n7⟩ := q7; exact again I7 n7
    | cont => obtain ⟨σ7, H7, I7, n7⟩ := q7; exact again I7 n7
    | brk => obtain ⟨σ7, H7, I7, q7⟩ := q7; exact ⟨σ7, H7, I7.unpinned, q7⟩
    | ret v => obtain ⟨x7, σ7, H7, I7, r7, q7⟩ := q7; exact ⟨x7, σ7, H7, I7.unpinned, r7, q7⟩
end

/-! ### the forms one uses -/
/-- over a list that the body leaves as it is -/
theorem for_list {K : PySem.W.Frag} {a : Addr} {xs : List V} {g : TG} {tb : TS} {D : Ends} {σ : St} {H : Hp} (Pv : Nat → St → Hp → Prop) (h0 : Pv 0 σ H) (hl : ∀ i σ H, i ≤ xs.length → Pv i σ H → SqL K H a xs)
    (hs : ∀ i x σ H, xs[i]? = some x → Pv i σ H → g x σ H fun σ2 H2 => tb { D with nx := Pv (i + 1), ct := Pv (i + 1), bk := D.nx } σ2 H2) (hd : ∀ σ H, Pv xs.length σ H → D.nx σ H) :
    ∃ W : Nat → Nat → St → Hp → Prop, (∃ m, W 0 m σ H) ∧ ∀ i m σ H, W i m σ H →
      ((Itl K a).stop i H ∧ D.nx σ H) ∨ ((Itl K a).go i H ∧ ∃ N : St → Hp → Prop, (∀ σ' H', N σ' H' → ∃ m', m' < m ∧ W (i + 1) m' σ' H') ∧ ∀ x H', (Itl K a).yld i H x H' → g x σ H' fun σ2 H2 => tb { D with nx := N, ct := N, bk := D.nx } σ2 H2) := by
  refine ⟨fun i m σ H => m = xs.length - i ∧ i ≤ xs.length ∧ Pv i σ H, ⟨xs.length, by simp, Nat.zero_le _, h0⟩, ?_⟩
  rintro i m σ H ⟨rfl, hi, p⟩
  have q := hl i σ H hi p
  by_cases hlt : i < xs.length
  · refine .inr ⟨⟨xs, xs[i], q, by simp [hlt]⟩, Pv (i + 1), fun σ' H' p' => ⟨xs.length - (i + 1), by omega, rfl, hlt, p'⟩, fun x H' y => ?_⟩
    obtain ⟨e, y⟩ := y
    subst e
    exact hs i x σ _ (y xs q) p
  · have e : i = xs.length := by omega
    subst e
    exact .inl ⟨⟨xs, q, Nat.le_refl _⟩, hd σ H p⟩
theorem for_range {lo : Int} {n : Nat} {g : TG} {tb : TS} {D : Ends} {σ : St} {H : Hp} (Pv : Nat → St → Hp → Prop) (h0 : Pv 0 σ H)
    (hs : ∀ i σ H, i < n → Pv i σ H → g (.int (lo + i)) σ H fun σ2 H2 => tb { D with nx := Pv (i + 1), ct := Pv (i + 1), bk := D.nx } σ2 H2) (hd : ∀ σ H, Pv n σ H → D.nx σ H) :
    ∃ W : Nat → Nat → St → Hp → Prop, (∃ m, W 0 m σ H) ∧ ∀ i m σ H, W i m σ H →
      ((Itr lo n).stop i H ∧ D.nx σ H) ∨ ((Itr lo n).go i H ∧ ∃ N : St → Hp → Prop, (∀ σ' H', N σ' H' → ∃ m', m' < m ∧ W (i + 1) m' σ' H') ∧ ∀ x H', (Itr lo n).yld i H x H' → g x σ H' fun σ2 H2 => tb { D with nx := N, ct := N, bk := D.nx } σ2 H2) := by
  refine ⟨fun i m σ H => m = n - i ∧ i ≤ n ∧ Pv i σ H, ⟨n, by simp, Nat.zero_le _, h0⟩, ?_⟩
  rintro i m σ H ⟨rfl, hi, p⟩
  by_cases hlt : i < n
  · refine .inr ⟨hlt, Pv (i + 1), fun σ' H' p' => ⟨n - (i + 1), by omega, rfl, hlt, p'⟩, fun x H' y => ?_⟩
    obtain ⟨e, y⟩ := y
    subst e y
    exact hs i σ _ hlt p
  · have e : i = n := by omega
    subst e
    exact .inl ⟨Nat.le_refl _, hd σ H p⟩
end L2

namespace L2
open PySem PySem.Spec PyProof.Rows

abbrev R2 := V → V → Hp → VK → Prop
/-- a two-place operation on values: f is binaryOp op, inplaceOp op or compareOp op -/
def OpR (X : Cx) (f : Value → Value → Sem Value) (r : R2) : Prop :=
  ∀ (pins : List (Addr × Obj)) (s : Shared) (σ : St) (H : Hp) (x y : V) (v u : Value) (Q : VK), Inv X pins σ H s → RelV x v → RelV y u → r x y H Q →
    wpAny (model X.prog X.w) X.A (f v u) (EP X pins σ Q) X.xe s
/-- a one-place operation -/
def UnR (X : Cx) (f : Value → Sem Value) (r : V → Hp → VK → Prop) : Prop :=
  ∀ (pins : List (Addr × Obj)) (s : Shared) (σ : St) (H : Hp) (x : V) (v : Value) (Q : VK), Inv X pins σ H s → RelV x v → r x H Q →
    wpAny (model X.prog X.w) X.A (f v) (EP X pins σ Q) X.xe s
/-- a call of a value that is known (a builtin, a type) with values -/
def CallR (X : Cx) (f : Value) (r : List V → Hp → VK → Prop) : Prop :=
  ∀ (pins : List (Addr × Obj)) (s : Shared) (σ : St) (H : Hp) (xs : List V) (us : List Value) (Q : VK), Inv X pins σ H s → Vals xs us → r xs H Q →
    wpAny (model X.prog X.w) X.A (call f us) (EP X pins σ Q) X.xe s
/-- a value's truth -/
def TruR (X : Cx) (r : V → Hp → (Bool → Hp → Prop) → Prop) : Prop :=
  ∀ (pins : List (Addr × Obj)) (s : Shared) (σ : St) (H : Hp) (x : V) (v : Value) (Q : Bool → Hp → Prop), Inv X pins σ H s → RelV x v → r x H Q →
    wpAny (model X.prog X.w) X.A (truthy v) (TP X pins σ Q) X.xe s

def tOp (r : R2) (ta tb : TE) : TE := fun σ H Q => ta σ H fun x H1 => tb σ H1 fun y H2 => r x y H2 Q
def tUn (r : V → Hp → VK → Prop) (ta : TE) : TE := fun σ H Q => ta σ H fun x H1 => r x H1 Q
/-- ints in, under C, and a value out -/
def rI (C : Int → Int → Prop) (g : Int → Int → V) : R2 := fun x y H Q => ∃ i j, x = .int i ∧ y = .int j ∧ C i j ∧ Q (g i j) H
def rI0 (g : Int → Int → V) : R2 := fun x y H Q => ∃ i j, x = .int i ∧ y = .int j ∧ Q (g i j) H
def rU (g : Int → V) : V → Hp → VK → Prop := fun x H Q => ∃ i, x = .int i ∧ Q (g i) H

section
variable {X : Cx} {a b c : Expr} {ta tb tc : TE} {pos : Pos}

theorem binT (ha : PE X a ta) (hb : PE X b tb) {pins : List (Addr × Obj)} {s : Shared} {σ : St} {H : Hp} {R : V → V → Hp → Prop} (I : Inv X pins σ H s)
    (h : ta σ H fun x H1 => tb σ H1 fun y H2 => R x y H2) {Q : Value → Shared → Prop} {f : Value → Value → Sem Value}
    (hf : ∀ v u s2 x y H2, Inv X pins σ H2 s2 → RelV x v → RelV y u → R x y H2 → wpAny (model X.prog X.w) X.A (f v u) Q X.xe s2) :
    wpAny (model X.prog X.w) X.A (eval a X.env) (fun v s₁ => wpAny (model X.prog X.w) X.A (eval b X.env) (fun u s₂ => wpAny (model X.prog X.w) X.A (f v u) Q X.xe s₂) X.xe s₁) X.xe s := by
  refine thn (ha pins s σ H _ I h) fun v s1 ⟨x, H1, I1, r1, q1⟩ => ?_
  refine thn (hb pins s1 σ H1 _ I1 q1) fun u s2 ⟨y, H2, I2, r2, q2⟩ => ?_
  exact hf v u s2 x y H2 I2 r1 r2 q2

theorem pe_op {op : Operator} {r : R2} (ho : OpR X (binaryOp op) r) (ha : PE X a ta) (hb : PE X b tb) : PE X (.BinOp a op b pos) (tOp r ta tb) := by
  intro pins s σ H Q I h
  exact wpAny_BinOp (binT ha hb I h fun v u s2 x y H2 I2 rx ry q => ho pins s2 σ H2 x y v u Q I2 rx ry q)
theorem pe_un {op : UnaryOp} {r : V → Hp → VK → Prop} (ho : UnR X (unaryOp op) r) (ha : PE X a ta) : PE X (.UnaryOp op a pos) (tUn r ta) := by
  intro pins s σ H Q I h
  exact UnaryOp_ (thn (ha pins s σ H _ I h) fun v s1 ⟨x, H1, I1, r1, q1⟩ => ho pins s1 σ H1 x v Q I1 r1 q1)
/-! ### ints -/
theorem opI {f : Value → Value → Sem Value} {C : Int → Int → Prop} {g : Int → Int → Int}
    (rule : ∀ (i j : Int) (t u : Tok) (s : Shared) (Q : Value → Shared → Prop) (E : Value → Shared → Prop), C i j → Q (.int (g i j) s.toks) { s with toks := s.toks + 1 } → wpAny (model X.prog X.w) X.A (f (.int i t) (.int j u)) Q E s) :
    OpR X f (rI C fun i j => .int (g i j)) := by
  intro pins s σ H x y v u Q I rx ry h
  obtain ⟨i, j, rfl, rfl, hc, q⟩ := h
  obtain ⟨t, rfl⟩ := rx
  obtain ⟨t', rfl⟩ := ry
  exact rule i j t t' s _ _ hc ⟨.int (g i j), H, I.tok _, ⟨_, rfl⟩, q⟩
theorem opI0 {f : Value → Value → Sem Value} {g : Int → Int → Int}
    (rule : ∀ (i j : Int) (t u : Tok) (s : Shared) (Q : Value → Shared → Prop) (E : Value → Shared → Prop), Q (.int (g i j) s.toks) { s with toks := s.toks + 1 } → wpAny (model X.prog X.w) X.A (f (.int i t) (.int j u)) Q E s) :
    OpR X f (rI0 fun i j => .int (g i j)) := by
  intro pins s σ H x y v u Q I rx ry h
  obtain ⟨i, j, rfl, rfl, q⟩ := h
  obtain ⟨t, rfl⟩ := rx
  obtain ⟨t', rfl⟩ := ry
  exact rule i j t t' s _ _ ⟨.int (g i j), H, I.tok _, ⟨_, rfl⟩, q⟩
theorem opB0 {f : Value → Value → Sem Value} {g : Int → Int → Bool}
    (rule : ∀ (i j : Int) (t u : Tok) (s : Shared) (Q : Value → Shared → Prop) (E : Value → Shared → Prop), Q (.bool (g i j)) s → wpAny (model X.prog X.w) X.A (f (.int i t) (.int j u)) Q E s) :
    OpR X f (rI0 fun i j => .bl (g i j)) := by
  intro pins s σ H x y v u Q I rx ry h
  obtain ⟨i, j, rfl, rfl, q⟩ := h
  obtain ⟨t, rfl⟩ := rx
  obtain ⟨t', rfl⟩ := ry
  exact rule i j t t' s _ _ ⟨.bl (g i j), H, I, rfl, q⟩

def CDiv (i j : Int) : Prop := 0 < j ∧ j < 1073741824
def CMul (i j : Int) : Prop := (-(2 ^ 64) < i ∧ i < 2 ^ 64) ∨ (-(2 ^ 64) < j ∧ j < 2 ^ 64)
theorem CMul.ok {i j : Int} (h : CMul i j) : IntMulOk i j := by
  rcases h with ⟨h1, h2⟩ | ⟨h1, h2⟩
  · exact .of_left (intBits_le_64 h1 h2)
  · exact .of_right (intBits_le_64 h1 h2)
theorem op_add : OpR X (binaryOp .Add) (rI0 fun i j => .int (i + j)) := opI0 fun _ _ _ _ _ _ _ q => add_int q
theorem op_sub : OpR X (binaryOp .Sub) (rI0 fun i j => .int (i - j)) := opI0 fun _ _ _ _ _ _ _ q => sub_int q
theorem op_mul : OpR X (binaryOp .Mult) (rI CMul fun i j => .int (i * j)) := opI fun _ _ _ _ _ _ _ hc q => mul_int q hc.ok
/-- // by a positive divisor -/
theorem op_fdiv : OpR X (binaryOp .FloorDiv) (rI CDiv fun i j => .int (i / j)) := opI fun i j _ _ _ _ _ hc q => by
  have h1 : (0 : Int) < j := hc.1
  have h2 : j < 1073741824 := hc.2
  exact floordiv_int (by omega) (by rw [Int.fdiv_eq_ediv_of_nonneg i (by omega)]; exact q) (.inl (PyProof.noPylong_small (by omega)))
/-- % by a positive divisor of any size -/
theorem op_mod : OpR X (binaryOp .Mod) (rI (fun _ j => 0 < j) fun i j => .int (i % j)) := opI fun i j _ _ _ _ _ hc q => by
  have h1 : (0 : Int) < j := hc
  exact mod_int' (by omega) (by rw [Int.fmod_eq_emod_of_nonneg i (by omega)]; exact q)
theorem unI {f : Value → Sem Value} {g : Int → Int}
    (rule : ∀ (i : Int) (t : Tok) (s : Shared) (Q : Value → Shared → Prop) (E : Value → Shared → Prop), Q (.int (g i) s.toks) { s with toks := s.toks + 1 } → wpAny (model X.prog X.w) X.A (f (.int i t)) Q E s) :
    UnR X f (rU fun i => .int (g i)) := by
  intro pins s σ H x v Q I rx h
  obtain ⟨i, rfl, q⟩ := h
  obtain ⟨t, rfl⟩ := rx
  exact rule i t s _ _ ⟨.int (g i), H, I.tok _, ⟨_, rfl⟩, q⟩
theorem un_neg : UnR X (unaryOp .USub) (rU fun i => .int (-i)) := unI fun _ _ _ _ _ q => neg_int q
end

/-! ### comparisons -/
/-- the scalars that == tells apart as data does -/
def scal : V → V → Bool
  | .non, .non => true | .non, .int _ => true | .int _, .non => true | .non, .bl _ => true | .bl _, .non => true | .non, .str _ => true | .str _, .non => true
  | .int _, .int _ => true | .bl _, .bl _ => true | .str _, .str _ => true | .byt _, .byt _ => true
  | .int _, .str _ => true | .str _, .int _ => true | .bl _, .str _ => true | .str _, .bl _ => true
  | _, _ => false
def rEq : R2 := fun x y H Q => scal x y = true ∧ Q (.bl (decide (x = y))) H
def rNe : R2 := fun x y H Q => scal x y = true ∧ Q (.bl (!decide (x = y))) H

theorem dec_int {i j : Int} : decide (V.int i = V.int j) = (i == j) := by
  rw [Bool.eq_iff_iff]
  simp
theorem dec_bl {i j : Bool} : decide (V.bl i = V.bl j) = (i == j) := by
  rw [Bool.eq_iff_iff]
  simp
theorem dec_str {i j : Str} : decide (V.str i = V.str j) = (i == j) := by
  rw [Bool.eq_iff_iff]
  simp
theorem dec_byt {i j : Array UInt8} : decide (V.byt i = V.byt j) = (i.toList == j.toList) := by
  rw [Bool.eq_iff_iff]
  cases i
  cases j
  simp

section
variable {X : Cx} {a b c : Expr} {ta tb tc : TE} {pos : Pos}
theorem fin_bl {pins : List (Addr × Obj)} {σ : St} {H : Hp} {s : Shared} {Q : VK} {k k' : Bool} (I : Inv X pins σ H s) (q : Q (.bl k) H) (e : k = k') : EP X pins σ Q (.bool k') s := by
  subst e
  exact ⟨.bl k, H, I, rfl, q⟩
theorem op_eq : OpR X (compareOp .Eq) rEq := by
  intro pins s σ H x y v u Q I rx ry h
  obtain ⟨hs, q⟩ := h
  cases x with
  | non =>
    cases rx
    cases y with
    | non => cases ry; exact PySem.EqNone.eq_none_none (fin_bl I q (by simp))
    | bl j => cases ry; exact PySem.EqNone.eq_none_bool (fin_bl I q (by simp))
    | int j => obtain ⟨t', rfl⟩ := ry; exact PySem.EqNone.eq_none_int (fin_bl I q (by simp))
    | str j => obtain ⟨t', rfl⟩ := ry; exact PySem.EqNone.eq_none_str (fin_bl I q (by simp))
    | _ => exact absurd (show false = true from hs) Bool.false_ne_true
  | bl i =>
    cases rx
    cases y with
    | non => cases ry; exact PySem.EqNone.eq_bool_none (fin_bl I q (by simp))
    | bl j => cases ry; exact eq_bool (fin_bl I q dec_bl)
    | str j => obtain ⟨t', rfl⟩ := ry; exact PySem.EqMixed.eq_bool_str (fin_bl I q (by simp))
    | _ => exact absurd (show false = true from hs) Bool.false_ne_true
  | int i =>
    obtain ⟨t, rfl⟩ := rx
    cases y with
    | non => cases ry; exact PySem.EqNone.eq_int_none (fin_bl I q (by simp))
    | int j => obtain ⟨t', rfl⟩ := ry; exact eq_int (fin_bl I q dec_int)
    | str j => obtain ⟨t', rfl⟩ := ry; exact PySem.EqMixed.eq_int_str (fin_bl I q (by simp))
    | _ => exact absurd (show false = true from hs) Bool.false_ne_true
  | str i =>
    obtain ⟨t, rfl⟩ := rx
    cases y with
    | non => cases ry; exact PySem.EqNone.eq_str_none (fin_bl I q (by simp))
    | bl j => cases ry; exact PySem.EqMixed.eq_str_bool (fin_bl I q (by simp))
    | int j => obtain ⟨t', rfl⟩ := ry; exact PySem.EqMixed.eq_str_int (fin_bl I q (by simp))
    | str j => obtain ⟨t', rfl⟩ := ry; exact eq_str (fin_bl I q dec_str)
    | _ => exact absurd (show false = true from hs) Bool.false_ne_true
  | byt i =>
    obtain ⟨t, rfl⟩ := rx
    cases y with
    | byt j => obtain ⟨t', rfl⟩ := ry; exact PySem.W.eq_bytes (fin_bl I q dec_byt)
    | _ => exact absurd (show false = true from hs) Bool.false_ne_true
  | _ => cases y <;> exact absurd (show false = true from hs) Bool.false_ne_true
theorem op_ne : OpR X (compareOp .NotEq) rNe := by
  intro pins s σ H x y v u Q I rx ry h
  obtain ⟨hs, q⟩ := h
  cases x with
  | non =>
    cases rx
    cases y with
    | non => cases ry; exact PySem.EqNone.ne_none_none (fin_bl I q (by simp))
    | bl j => cases ry; exact PySem.EqNone.ne_none_bool (fin_bl I q (by simp))
    | int j => obtain ⟨t', rfl⟩ := ry; exact PySem.EqNone.ne_none_int (fin_bl I q (by simp))
    | str j => obtain ⟨t', rfl⟩ := ry; exact PySem.EqNone.ne_none_str (fin_bl I q (by simp))
    | _ => exact absurd (show false = true from hs) Bool.false_ne_true
  | bl i =>
    cases rx
    cases y with
    | non => cases ry; exact PySem.EqNone.ne_bool_none (fin_bl I q (by simp))
    | bl j => cases ry; exact ne_bool (fin_bl I q (congrArg not dec_bl))
    | str j => obtain ⟨t', rfl⟩ := ry; exact PySem.EqMixed.ne_bool_str (fin_bl I q (by simp))
    | _ => exact absurd (show false = true from hs) Bool.false_ne_true
  | int i =>
    obtain ⟨t, rfl⟩ := rx
    cases y with
    | non => cases ry; exact PySem.EqNone.ne_int_none (fin_bl I q (by simp))
    | int j => obtain ⟨t', rfl⟩ := ry; exact ne_int (fin_bl I q (congrArg not dec_int))
    | str j => obtain ⟨t', rfl⟩ := ry; exact PySem.EqMixed.ne_int_str (fin_bl I q (by simp))
    | _ => exact absurd (show false = true from hs) Bool.false_ne_true
  | str i =>
    obtain ⟨t, rfl⟩ := rx
    cases y with
    | non => cases ry; exact PySem.EqNone.ne_str_none (fin_bl I q (by simp))
    | bl j => cases ry; exact PySem.EqMixed.ne_str_bool (fin_bl I q (by simp))
    | int j => obtain ⟨t', rfl⟩ := ry; exact PySem.EqMixed.ne_str_int (fin_bl I q (by simp))
    | str j => obtain ⟨t', rfl⟩ := ry; exact ne_str (fin_bl I q (congrArg not dec_str))
    | _ => exact absurd (show false = true from hs) Bool.false_ne_true
  | byt i =>
    obtain ⟨t, rfl⟩ := rx
    cases y with
    | byt j => obtain ⟨t', rfl⟩ := ry; exact PySem.W.ne_bytes (fin_bl I q (congrArg not dec_byt))
    | _ => exact absurd (show false = true from hs) Bool.false_ne_true
  | _ => cases y <;> exact absurd (show false = true from hs) Bool.false_ne_true

theorem op_lt : OpR X (compareOp .Lt) (rI0 fun i j => .bl (decide (i < j))) := opB0 fun _ _ _ _ _ _ _ q => lt_int q
theorem op_le : OpR X (compareOp .LtE) (rI0 fun i j => .bl (decide (i ≤ j))) := opB0 fun _ _ _ _ _ _ _ q => le_int q
theorem op_gt : OpR X (compareOp .Gt) (rI0 fun i j => .bl (decide (j < i))) := opB0 fun _ _ _ _ _ _ _ q => gt_int q
theorem nomark (b : Expr) {op : CmpOp} (h : op ≠ .In := by decide) (h2 : op ≠ .NotIn := by decide) : behindInMarks op b = false := by
  have e1 : (op == CmpOp.In) = false := by cases op <;> first | rfl | exact absurd rfl h
  have e2 : (op == CmpOp.NotIn) = false := by cases op <;> first | rfl | exact absurd rfl h2
  cases b <;> simp [behindInMarks, e1, e2]
/-- a comparison as a value; hm: nomark b, or (for in, not in) by with_unfolding_all rfl -/
theorem pe_cmpR {op : CmpOp} {r : R2} (ho : OpR X (compareOp op) r) (ha : PE X a ta) (hb : PE X b tb) (hm : behindInMarks op b = false) : PE X (.Compare a [op] [b] pos) (tOp r ta tb) := by
  intro pins s σ H Q I h
  exact wpAny_Compare1 (binT ha hb I h fun v u s2 x y H2 I2 rx ry q => ho pins s2 σ H2 x y v u Q I2 rx ry q) hm
/-- a reading of a value as a test -/
def tTest (t : TE) : TT := fun σ H Q => t σ H fun x H' => ∃ k, x = .bl k ∧ Q k H'
theorem pt_cmpR {op : CmpOp} {r : R2} (ho : OpR X (compareOp op) r) (ha : PE X a ta) (hb : PE X b tb) (hm : behindInMarks op b = false) : PT X (.Compare a [op] [b] pos) (tTest (tOp r ta tb)) := by
  intro pins s σ H Q I h
  refine wpAny_isTrue_Compare1 (thn (ha pins s σ H _ I h) fun v s1 ⟨x, H1, I1, r1, q1⟩ => thn (hb pins s1 σ H1 _ I1 q1) fun u s2 ⟨y, H2, I2, r2, q2⟩ =>
    thn (ho pins s2 σ H2 x y v u _ I2 r1 r2 q2) fun c s3 ⟨z, H3, I3, r3, k, e, q3⟩ => ?_) hm
  subst e
  cases r3
  exact wpAny_truthy_bool ⟨H3, I3, q3⟩
/-- a op1 b op2 c -/
def tChain (r r' : R2) (ta tb tc : TE) : TE := fun σ H Q => ta σ H fun x H1 => tb σ H1 fun y H2 => r x y H2 fun z H3 => ∃ k, z = .bl k ∧
  (if k = true then tc σ H3 fun w' H4 => r' y w' H4 Q else Q (.bl false) H3)
theorem pe_chain {op op' : CmpOp} {r r' : R2} (ho : OpR X (compareOp op) r) (ho' : OpR X (compareOp op') r') (ha : PE X a ta) (hb : PE X b tb) (hc : PE X c tc)
    (hm : lastMarks [op, op'] [b, c] = false := by with_unfolding_all rfl) : PE X (.Compare a [op, op'] [b, c] pos) (tChain r r' ta tb tc) := by
  intro pins s σ H Q I h
  refine Compare_chain (thn (ha pins s σ H _ I h) fun v s1 ⟨x, H1, I1, r1, q1⟩ => chain_link (thn (hb pins s1 σ H1 _ I1 q1) fun u s2 ⟨y, H2, I2, r2, q2⟩ =>
    thn (ho pins s2 σ H2 x y v u _ I2 r1 r2 q2) fun d s3 ⟨z, H3, I3, r3, k, e, q3⟩ => ?_)) hm
  subst e
  cases r3
  refine wpAny_truthy_bool ?_
  cases k with
  | false => exact ite_ff ⟨.bl false, H3, I3, rfl, q3⟩
  | true => exact ite_tt (chain_last (thn (hc pins s3 σ H3 _ I3 q3) fun w' s4 ⟨z', H4, I4, r4, q4⟩ => ho' pins s4 σ H4 y z' u w' Q I4 r2 r4 q4))
theorem pt_chain {op op' : CmpOp} {r r' : R2} (ho : OpR X (compareOp op) r) (ho' : OpR X (compareOp op') r') (ha : PE X a ta) (hb : PE X b tb) (hc : PE X c tc)
    (hm : lastMarks [op, op'] [b, c] = false := by with_unfolding_all rfl) : PT X (.Compare a [op, op'] [b, c] pos) (tTest (tChain r r' ta tb tc)) := by
  intro pins s σ H Q I h
  refine isTrue_chain (thn (ha pins s σ H _ I h) fun v s1 ⟨x, H1, I1, r1, q1⟩ => test_link (thn (hb pins s1 σ H1 _ I1 q1) fun u s2 ⟨y, H2, I2, r2, q2⟩ =>
    thn (ho pins s2 σ H2 x y v u _ I2 r1 r2 q2) fun d s3 ⟨z, H3, I3, r3, k, e, q3⟩ => ?_)) hm
  subst e
  cases r3
  refine wpAny_truthy_bool ?_
  cases k with
  | false =>
    obtain ⟨k', e', q'⟩ := q3
    cases e'
    exact ite_ff ⟨H3, I3, q'⟩
  | true =>
    refine ite_tt (test_last (thn (hc pins s3 σ H3 _ I3 q3) fun w' s4 ⟨z', H4, I4, r4, q4⟩ => thn (ho' pins s4 σ H4 y z' u w' _ I4 r2 r4 q4) fun d' s5 ⟨z2, H5, I5, r5, k2, e2, q5⟩ => ?_))
    subst e2
    cases r5
    exact wpAny_truthy_bool ⟨H5, I5, q5⟩

/-! ### truth -/
/-- a value's truth by the abstract heap -/
def TruV (K : PySem.W.Frag) (x : V) (H : Hp) (k : Bool) : Prop :=
  match x with
  | .non => k = false
  | .bl b => k = b
  | .int i => k = (i != 0)
  | .str y => y.length ≤ sizeLine ∧ k = ((y.length : Int) != 0)
  | .byt y => y.size ≤ sizeLine ∧ k = ((y.size : Int) != 0)
  | .ref p => (∃ xs, SqL K H p xs ∧ k = !xs.isEmpty) ∨ (∃ xs, SqT K H p xs ∧ k = !xs.isEmpty) ∨ ∃ kvs, H p = some (.dK kvs) ∧ k = !kvs.isEmpty
  | _ => False
theorem isEmpty_kv {κ : Type} {kvs : List (κ × V)} {vs : List (κ × Value)} (r : KV kvs vs) : (!vs.isEmpty) = !kvs.isEmpty := by
  cases r <;> rfl
theorem isEmpty_of {xs : List V} {its : List Value} (r : Vals xs its) : (!its.toArray.isEmpty) = !xs.isEmpty := by
  cases r <;> simp
theorem line63 : (sizeLine : Nat) < 2 ^ 63 := by rw [sizeLine_eq]; decide
theorem tru_ok : TruR X (fun x H Q => ∃ k, TruV X.K x H k ∧ Q k H) := by
  intro pins s σ H x v Q I rx h
  obtain ⟨k, e, q⟩ := h
  have hl := line63
  have hs : sizeLine = 16777216 := sizeLine_eq
  cases x with
  | non =>
    cases rx
    have e' : k = false := e
    subst e'
    exact truthy_none ⟨H, I, q⟩
  | bl b =>
    cases rx
    have e' : k = b := e
    subst e'
    exact wpAny_truthy_bool ⟨H, I, q⟩
  | int i =>
    obtain ⟨t, rfl⟩ := rx
    have e' : k = (i != 0) := e
    subst e'
    exact PySem.P.truthy_int ⟨H, I, q⟩
  | str y =>
    obtain ⟨t, rfl⟩ := rx
    obtain ⟨hy, e'⟩ : y.length ≤ sizeLine ∧ k = ((y.length : Int) != 0) := e
    subst e'
    exact PySem.P.truthy_str (by omega) ⟨H, I.tok _, q⟩
  | byt y =>
    obtain ⟨t, rfl⟩ := rx
    obtain ⟨hy, e'⟩ : y.size ≤ sizeLine ∧ k = ((y.size : Int) != 0) := e
    subst e'
    exact PySem.W.truthy_bytes (by omega) ⟨H, I.tok _, q⟩
  | ref p =>
    cases rx
    have e' : (∃ xs, SqL X.K H p xs ∧ k = !xs.isEmpty) ∨ (∃ xs, SqT X.K H p xs ∧ k = !xs.isEmpty) ∨ ∃ kvs, H p = some (.dK kvs) ∧ k = !kvs.isEmpty := e
    rcases e' with ⟨xs, hx, e'⟩ | ⟨xs, hx, e'⟩ | ⟨kvs, hx, e'⟩
    · subst e'
      obtain ⟨its, r, pl, hz⟩ := I.list hx
      have hlen := r.length
      exact wpAny_truthy_list pl.isList (by simp only [List.size_toArray]; omega) ⟨H, I.tok _, by rw [isEmpty_of r]; exact q⟩
    · subst e'
      obtain ⟨its, r, pl, hz⟩ := I.tuple hx
      have hlen := r.length
      exact truthy_tuple pl (by simp only [List.size_toArray]; omega) ⟨H, I.tok _, by rw [isEmpty_of r]; exact q⟩
    · subst e'
      obtain ⟨hz, hS, vs, r, m⟩ : kvs.length ≤ sizeLine ∧ (p == sysModules) = false ∧ ∃ vs, KV kvs vs ∧ s.heap.DictOf (mixKind X.prog X.w) p vs := I.hok p _ hx
      have hlen : kvs.length = vs.length := Paired.length r
      exact wpAny_truthy_dict hS m (by omega) ⟨H, I.tok _, by rw [isEmpty_kv r]; exact q⟩
  | _ => exact (show False from e).elim
/-- any expression whose test is its value's truth (a name, a call, a subscript, a field ..: he by fun _ => rfl) -/
theorem pt_truth (ha : PE X a ta) (he : ∀ whole, isTrue a X.env whole = (do let v ← whole; standAt a.pos; holding [v] (truthy v))) :
    PT X a (fun σ H Q => ta σ H fun x H' => ∃ k, TruV X.K x H' k ∧ Q k H') := by
  intro pins s σ H Q I h
  exact isTrue_plain (thn (ha pins s σ H _ I h) fun v s1 ⟨x, H1, I1, r1, q1⟩ => tru_ok pins s1 σ H1 x v Q I1 r1 q1) (he _)

/-! ### scalar builtins, by CallR -/
theorem vals1 {x : V} {us : List Value} (r : Vals [x] us) : ∃ u, us = [u] ∧ RelV x u := by
  cases r with
  | cons r1 r2 => cases r2; exact ⟨_, rfl, r1⟩
theorem vals2 {x y : V} {us : List Value} (r : Vals [x, y] us) : ∃ u w', us = [u, w'] ∧ RelV x u ∧ RelV y w' := by
  cases r with
  | cons r1 r2 =>
    cases r2 with
    | cons r3 r4 => cases r4; exact ⟨_, _, rfl, r1, r3⟩
theorem call_max2 (hc : X.calm = true) : CallR X (.builtin "max") (fun xs H Q => ∃ i j, xs = [.int i, .int j] ∧ Q (.int (if j > i then j else i)) H) := by
  intro pins s σ H xs us Q I r h
  obtain ⟨i, j, rfl, q⟩ := h
  obtain ⟨u, w', rfl, ⟨t, rfl⟩, ⟨t', rfl⟩⟩ := vals2 r
  refine max_two_ints (I.ok.hd hc) fun h' tk k => ⟨_, H, I.kept k, ?_, q⟩
  by_cases hj : j > i
  · rw [if_pos hj, if_pos hj]; exact ⟨_, rfl⟩
  · rw [if_neg hj, if_neg hj]; exact ⟨_, rfl⟩
theorem call_min2 (hc : X.calm = true) : CallR X (.builtin "min") (fun xs H Q => ∃ i j, xs = [.int i, .int j] ∧ Q (.int (if j < i then j else i)) H) := by
  intro pins s σ H xs us Q I r h
  obtain ⟨i, j, rfl, q⟩ := h
  obtain ⟨u, w', rfl, ⟨t, rfl⟩, ⟨t', rfl⟩⟩ := vals2 r
  refine min_two_ints (I.ok.hd hc) fun h' tk k => ⟨_, H, I.kept k, ?_, q⟩
  by_cases hj : j < i
  · rw [if_pos hj, if_pos hj]; exact ⟨_, rfl⟩
  · rw [if_neg hj, if_neg hj]; exact ⟨_, rfl⟩
end
end L2

namespace L2
open PySem PySem.Spec PyProof.Rows

/-! ### an instance, its attributes a map -/
structure ObjM (h : Heap) (x dx C : Addr) (mA : Str → Option Value) : Prop where
  obj : h.get? x = some (PySem.W.instObj C dx)
  ns : h.Ns1 dx mA
  ne : dx ≠ x

theorem lookIn_ns {h : Heap} {dx : Addr} {mA : Str → Option Value} (n : h.Ns1 dx mA) : ∃ od, h.get? dx = some od ∧ ∀ name, PySem.W.lookIn name od = some (mA name) := by
  obtain ⟨o, es, ep, ho, hd, hk, _, hm⟩ := n
  refine ⟨o, ho, fun name => ?_⟩
  have e := hm name
  unfold nsFind findBy at e
  rw [← Array.find?_toList] at e
  unfold PySem.W.lookIn
  rw [hd]
  dsimp only
  split
  · rename_i y q
    rw [q] at e
    exact congrArg some e
  · rename_i q
    rw [q] at e
    have a : es.toList.any (·.refKey) = false := by
      rw [List.any_eq_false]
      intro y hy
      obtain ⟨z, t, hkey⟩ := hk y (Array.mem_toList_iff.mp hy)
      simp [DictEntry.refKey, hkey]
    have a' : ¬ es.toList.any (·.refKey) = true := by rw [a]; exact Bool.false_ne_true
    rw [if_neg a']
    exact congrArg some e

theorem ObjM.look {h : Heap} {x dx C : Addr} {mA : Str → Option Value} (I : ObjM h x dx C mA) : ∃ od, PySem.W.InstAt h x (PySem.W.instObj C dx) C (some od) ∧ ∀ name, PySem.W.lookIn name od = some (mA name) :=
  let ⟨od, ho, hl⟩ := lookIn_ns I.ns
  ⟨od, ⟨I.obj, rfl, rfl, ho⟩, hl⟩

section
variable {prog : Program} {w : World} {A : Around} {E : Value → Shared → Prop} {s : Shared} {K : PySem.W.Frag} {x dx C f : Addr} {mA : Str → Option Value} {name : Str} {v : Value}

end

section
variable {P : Program} {w : World} {H H' : Hp} {h h' : Heap} {a C dx : Addr} {fs fs' : List (Str × V)}
theorem ins_get (hok : HOk P w H h) (e : H a = some (.ins C dx fs)) : ∃ mA, ObjM h a dx C mA ∧ (∀ f, RelO (fs.lookup f) (mA f)) ∧ PySem.Within mA (fs.map (·.1)) ∧ fs.length ≤ 1000 ∧ H dx = some (.own a) := by
  obtain ⟨d, z, ne, ob, mA, n, r, q⟩ := (show ObjOk P w H h a (.ins C dx fs) from hok a _ e)
  exact ⟨mA, ⟨ob, n, ne⟩, r, q, z, d⟩
end

/-! ### what of the text a class must have -/
structure Cls (K : PySem.W.Frag) (C : Addr) : Prop where
  pg : PySem.W.plainGet K C Str.empty = true
  hd : PySem.W.hasDictIn K C = true
  po : PySem.W.plainOver K C = true
  sa : PySem.W.findIn K (.ref C) "__setattr__" = some (some (.builtin "object.__setattr__"))
theorem Cls.get {K : PySem.W.Frag} {C : Addr} (c : Cls K C) (f : Str) : PySem.W.plainGet K C f = true := c.pg
/-- a constant of the class -/
structure Con (K : PySem.W.Frag) (C : Addr) (f : Str) (v : V) (u : Value) : Prop where
  at_ : PySem.W.findIn K (.ref C) f = some (some u)
  rel : RelV v u
  get : PySem.W.specialIn K u "__get__" = some none
  cp : PySem.W.copiedNames.contains f = false
/-- a method: a plain def of the class or of one above it -/
structure Meth (K : PySem.W.Frag) (C : Addr) (m : Str) (f : Addr) : Prop where
  at_ : PySem.W.findIn K (.ref C) m = some (some (.ref f))
  fn : PySem.W.isFn K (.ref f) = true
  kp : PySem.W.keepIn K (.ref f) = true

section
variable {X : Cx} {pins : List (Addr × Obj)} {σ : St} {H : Hp} {s : Shared} {a C dx : Addr} {fs : List (Str × V)} {f : Str} {v : V} {A : Around} {E : Value → Shared → Prop}

/-- a new instance, tracked, without attributes -/
theorem Inv.made (I : Inv X pins σ H s) : Inv X pins σ (upd (upd H s.heap.objs.size (.own (s.heap.objs.size + 1))) (s.heap.objs.size + 1) (.ins C s.heap.objs.size []))
    { s with heap := (s.heap.push PySem.W.emptyDict).push (PySem.W.instObj C s.heap.objs.size) } := by
  have e1 : (s.heap.push PySem.W.emptyDict).get? s.heap.objs.size = some PySem.W.emptyDict := Heap.get?_push_size s.heap rfl
  have e2 : ((s.heap.push PySem.W.emptyDict).push (PySem.W.instObj C s.heap.objs.size)).get? (s.heap.objs.size + 1) = some (PySem.W.instObj C s.heap.objs.size) := by
    have := Heap.get?_push_size (s.heap.push PySem.W.emptyDict) (o := PySem.W.instObj C s.heap.objs.size) rfl
    rwa [Heap.size_push] at this
  have e3 : (s.heap.push PySem.W.emptyDict).Ns s.heap.objs.size (fun _ => none) := ⟨PySem.W.emptyDict, #[], _, e1, rfl, (fun e he => absurd he (by simp)), fun _ => rfl⟩
  have I1 := I.laid (a := s.heap.objs.size) (o := .own (s.heap.objs.size + 1)) (h' := s.heap.push PySem.W.emptyDict) (t' := s.toks) (fun b u q => Heap.get?_push_of_some _ q) (Nat.le_refl _) ⟨_, e1⟩
  refine I1.laid (a := s.heap.objs.size + 1) (o := .ins C s.heap.objs.size []) (t' := s.toks) (fun b u q => Heap.get?_push_of_some _ q) (Nat.le_of_eq (Heap.size_push _ _)) ?_
  have ne : s.heap.objs.size ≠ s.heap.objs.size + 1 := Nat.ne_of_lt (Nat.lt_succ_self _)
  refine ⟨by rw [upd_ne ne, upd_same], Nat.zero_le _, ne, e2, fun _ => none, (Heap.Ns1.of_empty e3).at fun o q => Heap.get?_push_of_some _ q, fun _ => True.intro, fun y hy => absurd rfl hy⟩

end

section
variable {X : Cx} {o e value : Expr} {f : Str} {pos pos' tpos : Pos} {ta tv : TE}
end

/-! ### isinstance -/
section
variable {X : Cx} {pins : List (Addr × Obj)} {σ : St} {H : Hp} {s : Shared} {A : Around} {E : Value → Shared → Prop} {Q : Value → Shared → Prop} {c : Value} {b : Bool}
/-- the type of a value, as the fragment's deciders take it; for an instance its class -/
inductive TyOf (K : PySem.W.Frag) (H : Hp) : V → Value → Prop where
  | non : TyOf K H .non (.type "NoneType")
  | bl (x : Bool) : TyOf K H (.bl x) (.type "bool")
  | int (i : Int) : TyOf K H (.int i) (.type "int")
  | str (x : Str) : TyOf K H (.str x) (.type "str")
  | flt (x : UInt64) : TyOf K H (.flt x) (.type "float")
  | lst {a : Addr} {xs : List V} (e : H a = some (.lst xs)) : TyOf K H (.ref a) (.type "list")
  | frz {a : Addr} {o : Obj} {xs : List V} (e : H a = some (.frz o (.lst xs))) : TyOf K H (.ref a) (.type "list")
  | tup {a : Addr} {xs : List V} (e : H a = some (.tup xs)) : TyOf K H (.ref a) (.type "tuple")
  | dK {a : Addr} {kvs : List (Key × V)} (e : H a = some (.dK kvs)) : TyOf K H (.ref a) (.type "dict")
  | dT {a : Addr} {kvs : List (List Key × V)} (e : H a = some (.dT kvs)) : TyOf K H (.ref a) (.type "dict")
  | ins {a C dx : Addr} {fs : List (Str × V)} (e : H a = some (.ins C dx fs)) (cl : Cls K C) (ha : PySem.W.findIn K (.ref C) "__class__" = some (some (.builtin "object.__class__")))
      (hn : PySem.W.specialIn K (.builtin "object.__class__") "__get__" = some (some (.builtin "getset_descriptor.__get__"))) (htk : PySem.W.takesIn K (.builtin "object.__class__") = some true)
      (hm : PySem.W.mroIn K C (.type "object") = some true) : TyOf K H (.ref a) (.ref C)
/-- isinstance(x, c) for one class c, a built-in or an own one: kitOne's answer -/
theorem isinst_ok {x : V} {u t : Value} (I : Inv X pins σ H s) (rx : RelV x u) (ty : TyOf X.K H x t) (e : PySem.W.kitOne X.K t c = some b) (h : ∀ tk, Q (.bool b) { s with toks := tk }) :
    wpAny (model X.prog X.w) A (call (.builtin "isinstance") [u, c]) Q E s := by
  cases ty with
  | non => cases (show u = Value.none from rx); exact PySem.W.kia_one PySem.W.kitx_none I.kIn True.intro e (fun z => nomatch z) h
  | bl y => cases (show u = Value.bool y from rx); exact PySem.W.kia_one PySem.W.kitx_bool I.kIn True.intro e (fun z => nomatch z) h
  | int i => obtain ⟨t, q⟩ := (show ∃ t, u = Value.int i t from rx); cases q; exact PySem.W.kia_one PySem.W.kitx_int I.kIn True.intro e (fun z => nomatch z) h
  | str y => obtain ⟨t, q⟩ := (show ∃ t, u = Value.str y t from rx); cases q; exact PySem.W.kia_one PySem.W.kitx_str I.kIn True.intro e (fun z => nomatch z) h
  | flt y => obtain ⟨t, q⟩ := (show ∃ t, u = Value.float y t from rx); cases q; exact PySem.W.kia_one PySem.W.kitx_float I.kIn True.intro e (fun z => nomatch z) h
  | @lst a xs ea =>
    cases (show u = Value.ref a from rx)
    obtain ⟨_, _, n, _, h1⟩ := (show ObjOk X.prog X.w H s.heap a (.lst xs) from I.hok a _ ea)
    exact PySem.W.kia_one PySem.W.kitx_list I.kIn ⟨_, h1, rfl⟩ e (fun z => nomatch z) h
  | @frz a ob xs ea =>
    cases (show u = Value.ref a from rx)
    obtain ⟨_, _, _, n, _, h1⟩ := (show ObjOk X.prog X.w H s.heap a (.frz ob (.lst xs)) from I.hok a _ ea)
    exact PySem.W.kia_one PySem.W.kitx_list I.kIn ⟨_, h1, rfl⟩ e (fun z => nomatch z) h
  | @tup a xs ea =>
    cases (show u = Value.ref a from rx)
    obtain ⟨_, _, _, p⟩ := (show ObjOk X.prog X.w H s.heap a (.tup xs) from I.hok a _ ea)
    obtain ⟨o, h1, h2, _⟩ := p
    exact PySem.W.kia_one PySem.W.kitx_tuple I.kIn ⟨o, h1, h2⟩ e (fun z => nomatch z) h
  | @dK a kvs ea =>
    cases (show u = Value.ref a from rx)
    obtain ⟨_, _, vs, _, p⟩ := (show ObjOk X.prog X.w H s.heap a (.dK kvs) from I.hok a _ ea)
    obtain ⟨o, es, ep, h1, h2, _⟩ := p
    exact PySem.W.kia_one PySem.W.kitx_dict I.kIn ⟨o, h1, h2.1⟩ e (fun z => nomatch z) h
  | @dT a kvs ea =>
    cases (show u = Value.ref a from rx)
    obtain ⟨_, _, xs, _, o, es, ep, h1, h2, _⟩ := (show ObjOk X.prog X.w H s.heap a (.dT kvs) from I.hok a _ ea)
    exact PySem.W.kia_one PySem.W.kitx_dict I.kIn ⟨o, h1, h2.1⟩ e (fun z => nomatch z) h
  | @ins a C dx fs ea cl ha hn htk hm =>
    cases (show u = Value.ref a from rx)
    obtain ⟨mA, O, _⟩ := ins_get I.hok ea
    obtain ⟨od, J, _⟩ := O.look
    exact PySem.W.kia_one (PySem.W.kitx_own (cl.get _) cl.hd ha hn htk hm) I.kIn J e (fun z => nomatch z) h
end
end L2

namespace L2
open PySem PySem.Spec PyProof.Rows

/-! ### room -/
structure Room (k : Nat) (A : Around) : Prop where
  hd : A.handled = none
  dp : A.depth + 3 * k + 5 < recursionLimit
  un : A.units + 16 * k + 200 < cLine
theorem Room.mono {j k : Nat} {A : Around} (r : Room k A) (h : j ≤ k) : Room j A := ⟨r.hd, by have := r.dp; omega, by have := r.un; omega⟩
theorem Room.deeper {k : Nat} {A : Around} (r : Room (k + 1) A) (env : Env) : Room k (A.deeper env) :=
  ⟨r.hd, by have := r.dp; show A.depth + 1 + 3 * k + 5 < _; omega, by have := r.un; show A.units + 3 + 16 * k + 200 < _; omega⟩
theorem Room.in1 {k : Nat} {A : Around} (r : Room (k + 1) A) : Room k A.in1 :=
  ⟨r.hd, by have := r.dp; show A.depth + 3 * k + 5 < _; omega, by have := r.un; show A.units + 1 + 16 * k + 200 < _; omega⟩
theorem Room.depth {k : Nat} {A : Around} (r : Room k A) : A.depth < recursionLimit := by have := r.dp; omega
theorem Room.units {k : Nat} {A : Around} (r : Room k A) : A.units + 64 < cLine := by have := r.un; omega
/-! ### argument lists and displays -/
def tNil : TA := fun _ H Q => Q [] H
def tCons (ta : TE) (tr : TA) : TA := fun σ H Q => ta σ H fun x H1 => tr σ H1 fun xs H2 => Q (x :: xs) H2
section
variable {X : Cx} {e : Expr} {es : List Expr} {te : TE} {t : TA} {pos : Pos}
theorem pa_nil : PA X [] tNil := fun _ _ _ _ H Q I h => Calls.spliced_nil ⟨[], H, I, .nil, h⟩
theorem pa_cons (ha : PE X e te) (hr : PA X es t) (hs : starEach (e :: es) X.env = (false, eval e X.env) :: starEach es X.env := by rfl) : PA X (e :: es) (tCons te t) := by
  intro pos pins s σ H Q I h
  rw [hs]
  show wpAny _ _ (spliced ((false, eval e X.env) :: backTo pos (starEach es X.env))) _ _ s
  refine Calls.spliced_cons (thn (ha pins s σ H _ I h) fun u s1 ⟨x, H1, I1, r1, q1⟩ => ?_)
  exact thn (hr pos pins s1 σ H1 _ I1 q1) fun us s2 ⟨xs, H2, I2, r2, q2⟩ => ⟨x :: xs, H2, I2, .cons r1 r2, q2⟩

/-- a tuple, a list of written items -/
def tTup (t : TA) : TE := fun σ H Q => t σ H fun xs H1 => xs.length ≤ sizeLine ∧ ∀ p, H1 p = none → Q (.ref p) (upd H1 p (.tup xs))
def tLst (t : TA) : TE := fun σ H Q => t σ H fun xs H1 => xs.length ≤ sizeLine ∧ ∀ p, H1 p = none → Q (.ref p) (upd H1 p (.lst xs))
theorem pe_tup {x1} (h : PA X es t) : PE X (.Tuple es x1 pos) (tTup t) := by
  intro pins s σ H Q I hq
  refine wpAny_Tuple_spliced (thn (h pos pins s σ H _ I hq) fun us s1 ⟨xs, H1, I1, r, z, q⟩ => ⟨by rw [← r.length]; exact z, ?_⟩)
  have hf : H1 s1.heap.objs.size = none := I1.hok.fresh (Nat.le_refl _)
  refine ⟨.ref s1.heap.objs.size, upd H1 s1.heap.objs.size (.tup xs), I1.laid (t' := s1.toks) (fun b u e => Heap.get?_push_of_some _ e) (Nat.le_refl _) ?_, rfl, q _ hf⟩
  exact ⟨z, us, r, ⟨_, Heap.get?_push_size _ rfl, rfl, _, rfl⟩⟩
theorem pe_lst (h : PA X es t) : PE X (.List es pos) (tLst t) := by
  intro pins s σ H Q I hq
  refine wpAny_List_spliced (thn (h pos pins s σ H _ I hq) fun us s1 ⟨xs, H1, I1, r, z, q⟩ => ⟨by rw [← r.length]; exact z, ?_⟩)
  have hf : H1 s1.heap.objs.size = none := I1.hok.fresh (Nat.le_refl _)
  refine ⟨.ref s1.heap.objs.size, upd H1 s1.heap.objs.size (.lst xs), I1.laid (t' := s1.toks) (fun b u e => Heap.get?_push_of_some _ e) (Nat.le_refl _) ?_, rfl, q _ hf⟩
  exact ⟨z, us, 0, r, Heap.get?_push_size _ rfl⟩
end

/-! ### what a def promises -/
/-- a def's promise: the bound arguments in the parameters' order, the heap, the wanted end, the wanted exception -/
abbrev Sp := List V → Hp → VK → XK → Prop
/-- how an exception lies behind a call (file 08 gives it): the callers' frames, abstract heap and state ahead of the call, the wish, the exception, the state -/
abbrev CXT := List Env → Hp → Shared → XK → Value → Shared → Prop

/-- the state at a call -/
structure Env0 (P : Program) (w : World) (K : PySem.W.Frag) (mg : Str → Option Value) (base : Heap) (A : Around) (outer : List Env) (s : Shared) (H : Hp) : Prop where
  frames : A.frames = some outer
  mod : Mod K mg base
  bs : ∀ b o, base.get? b = some o → s.heap.get? b = some o ∧ H b = none
  bsz : base.objs.size ≤ s.heap.objs.size
  funs : s.heap.FunFrames base outer
  frf : ∀ b ∈ frs outer, H b = none
  hok : HOk P w H s.heap
  bare : AllBare s.gens
/-- a call's end -/
def CE (outer : List Env) (P : Program) (w : World) (H : Hp) (s : Shared) (Q : VK) (u : Value) (s' : Shared) : Prop :=
  ∃ v H', s'.os = s.os ∧ AllBare s'.gens ∧ Un (frs outer) [] H H' s.heap s'.heap ∧ HOk P w H' s'.heap ∧ RelV v u ∧ Q v H'
def CR (CX : CXT) (outer : List Env) (P : Program) (w : World) (H : Hp) (s : Shared) (Q : VK) (E : XK) (r : Result) (s' : Shared) : Prop :=
  match r with
  | .ok (.ret u) => CE outer P w H s Q u s'
  | .ok _ => False
  | .error e => CX outer H s E e s'
structure FnOk (P : Program) (w : World) (K : PySem.W.Frag) (mg : Str → Option Value) (base : Heap) (CX : CXT) (k : Nat) (f : Addr) (fd : FuncData) (ps : List Str) (sp : Sp) : Prop where
  len : ∀ vs H Q E, sp vs H Q E → vs.length = ps.length
  run : ∀ (A : Around) (outer : List Env) (s : Shared) (H : Hp) (args : Args) (us : List Value) (vs : List V) (Q : VK) (E : XK), Room k A → Env0 P w K mg base A outer s H → BindsTo s fd args (ps.zip us) → Vals vs us → sp vs H Q E →
    codeAny (model P w) A (.call (.ref f) args) (CR CX outer P w H s Q E) s
theorem FnOk.mono {P : Program} {w : World} {K : PySem.W.Frag} {mg : Str → Option Value} {base : Heap} {CX : CXT} {j k : Nat} {f : Addr} {fd : FuncData} {ps : List Str} {sp : Sp} (F : FnOk P w K mg base CX j f fd ps sp) (h : j ≤ k) :
    FnOk P w K mg base CX k f fd ps sp := ⟨F.len, fun A outer s H args us vs Q E hr => F.run A outer s H args us vs Q E (hr.mono h)⟩
/-- a weaker promise -/
theorem FnOk.imp {P : Program} {w : World} {K : PySem.W.Frag} {mg : Str → Option Value} {base : Heap} {CX : CXT} {k : Nat} {f : Addr} {fd : FuncData} {ps : List Str} {sp sp' : Sp} (F : FnOk P w K mg base CX k f fd ps sp)
    (h : ∀ vs H Q E, sp' vs H Q E → sp vs H Q E) : FnOk P w K mg base CX k f fd ps sp' :=
  ⟨fun vs H Q E q => F.len vs H Q E (h _ _ _ _ q), fun A outer s H args us vs Q E hr he hb hv hs => F.run A outer s H args us vs Q E hr he hb hv (h _ _ _ _ hs)⟩

theorem Env0.in1 {P : Program} {w : World} {K : PySem.W.Frag} {mg : Str → Option Value} {base : Heap} {A : Around} {outer : List Env} {s : Shared} {H : Hp} (e : Env0 P w K mg base A outer s H) :
    Env0 P w K mg base A.in1 outer s H := ⟨e.frames, e.mod, e.bs, e.bsz, e.funs, e.frf, e.hok, e.bare⟩

section
variable {X : Cx} {pins : List (Addr × Obj)} {σ : St} {H : Hp} {s s' : Shared}
/-- from a body: what a callee wants -/
theorem Inv.env0 (I : Inv X pins σ H s) : Env0 X.prog X.w X.K X.mg X.base X.A X.stack s H :=
  ⟨I.ok.frames, I.ok.mod, I.bs, Nat.le_trans I.ok.bsz I.sz, I.stack, I.stkFree, I.hok, I.bare⟩
/-- behind a call -/
theorem Inv.after {Q : VK} {u : Value} (I : Inv X pins σ H s) (h : CE X.stack X.prog X.w H s Q u s') : EP X pins σ Q u s' := by
  obtain ⟨v, H', os, bare, un, hok, r, q⟩ := h
  obtain ⟨hh, g, d, t, os'⟩ := s'
  obtain rfl : os' = s.os := os
  exact ⟨v, H', I.call (h' := hh) (g' := g) (d' := d) (t' := t) (ch := []) un hok bare (fun b z => absurd z (by simp)), r, q⟩
end

/-! ### calls -/
/-- f(..): the written arguments, then the defaults dvs; E: what is wanted of an exception -/
def tCall (sp : Sp) (dvs : List V) (E : XK) (t : TA) : TE := fun σ H Q => t σ H fun vs H1 => sp (vs ++ dvs) H1 Q E
/-- how the parameters are bound: us the positional arguments, kw the keywords' values by name, ds the defaults that fill up -/
def Binds (K : PySem.W.Frag) (fd : FuncData) (ps : List Str) (ds : List Value) : Prop :=
  ∀ (s : Shared) (us : List Value), K.In s.heap → (us ++ ds).length = ps.length → BindsTo s fd ⟨us, []⟩ (ps.zip (us ++ ds))
/-- every parameter is given -/
theorem Binds.all {K : PySem.W.Frag} {fd : FuncData} {ps : List Str} (h : ∀ us : List Value, us.length = ps.length → bindArgs fd ⟨us, []⟩ = pure (ps.zip us)) : Binds K fd ps [] := fun s us _ hl => by
  rw [List.append_nil] at hl ⊢
  exact .of_eq (h us hl)

/-- an exception of a callee reaches what this body wants of exceptions -/
def Passes (CX : CXT) (X : Cx) (E : XK) : Prop := ∀ (pins : List (Addr × Obj)) (σ : St) (H : Hp) (s : Shared) (e : Value) (s' : Shared), Inv X pins σ H s → CX X.stack H s E e s' → X.xe e s'

section
variable {X : Cx} {CX : CXT} {k : Nat} {f C : Addr} {fd : FuncData} {ps : List Str} {sp : Sp} {dvs : List V} {ds : List Value} {E : XK} {x m : Str} {p pos apos : Pos} {e o : Expr} {es : List Expr} {ta : TE} {t : TA}

/-- the callee runs -/
theorem run_fn {pins : List (Addr × Obj)} {σ : St} {H : Hp} {s : Shared} {Q : VK} {us : List Value} {vs : List V} (F : FnOk X.prog X.w X.K X.mg X.base CX k f fd ps sp) (hr : Room k X.A) (hb : Binds X.K fd ps ds) (hd : Vals dvs ds) (hx : Passes CX X E)
    (I : Inv X pins σ H s) (r : Vals vs us) (h : sp (vs ++ dvs) H Q E) : wpAny (model X.prog X.w) X.A (call (.ref f) us) (EP X pins σ Q) X.xe s := by
  have r2 : Vals (vs ++ dvs) (us ++ ds) := r.append hd
  have hl : (us ++ ds).length = ps.length := by rw [← r2.length]; exact F.len _ _ _ _ h
  refine wpAny_call (codeAny_mono (F.run X.A X.stack s H ⟨us, []⟩ (us ++ ds) (vs ++ dvs) Q E hr I.env0 (hb s us I.kIn hl) r2 h) fun r s' hq => ?_)
  cases r with
  | error e => exact hx pins σ H s e s' I hq
  | ok fl =>
    cases fl with
    | ret u => exact I.after hq
    | next => exact False.elim hq
    | brk => exact False.elim hq
    | cont => exact False.elim hq

theorem pe_call (F : FnOk X.prog X.w X.K X.mg X.base CX k f fd ps sp) (hr : Room k X.A) (hg : Gl X x) (hm : X.mg x = some (.ref f)) (hk : PySem.W.keepIn X.K (.ref f) = true) (hb : Binds X.K fd ps ds) (hd : Vals dvs ds) (hx : Passes CX X E)
    (ha : PA X (e :: es) t) (hdb : (x == ("__debug__" : Str)) = false := by decide) (he : starEach (e :: es) X.env = (false, eval e X.env) :: starEach es X.env := by rfl) (hpl : (backTo pos (starEach es X.env)).any (·.1) = false := by rfl) :
    PE X (.Call (.Name x p) (e :: es) [] pos) (tCall sp dvs E t) := by
  intro pins s σ H Q I h
  refine wpAny_Call_Name_kw (ld_glob I hg hm ?_ hdb)
  refine PySem.W.callWith_K (h₀ := X.base) I.ok.mod.kin hk (thn (ha pos pins s σ H _ I h) fun us s1 ⟨vs, H1, I1, r, q⟩ => ⟨I1.kIn, ?_⟩) he hpl
  exact run_fn F hr hb hd hx I1 r q
/-- what a class must have to be made -/
structure Mk (K : PySem.W.Frag) (C f : Addr) : Prop where
  makes : PySem.W.makesIn K C = true
  init : PySem.W.findIn K (.ref C) "__init__" = some (some (.ref f))
  fn : PySem.W.isFn K (.ref f) = true
  kp : PySem.W.keepIn K (.ref C) = true

end

section
variable {X : Cx} {CX : CXT} {k : Nat} {f C : Addr} {fd : FuncData} {ps ks : List Str} {sp : Sp} {E : XK} {x m : Str} {p pos apos kpos : Pos} {e o : Expr} {es : List Expr} {kws : List Keyword} {te ta : TE} {t tk : TA} {nm : Option Str}
/-- how a call with keywords binds: g puts the positional values us and the keywords' values ws (names ks) in the parameters' order, defaults among them -/
structure KBinds (K : PySem.W.Frag) (fd : FuncData) (ps ks : List Str) (g : List Value → List Value → List Value) (gV : List V → List V → List V) : Prop where
  to : ∀ (s : Shared) (us ws : List Value), K.In s.heap → (g us ws).length = ps.length → BindsTo s fd ⟨us, ks.zip ws⟩ (ps.zip (g us ws))
  rel : ∀ {vs : List V} {us : List Value} {zs : List V} {ws : List Value}, Vals vs us → Vals zs ws → Vals (gV vs zs) (g us ws)
variable {g : List Value → List Value → List Value} {gV : List V → List V → List V}
end

/-! ### a def's body keeps its promise -/
/-- names: the parameters first -/
structure FnScope (N P : List Str) (sc : Scope) : Prop where
  kind : sc.kind = .function
  co : sc.isCoroutine = false
  gen : sc.isGenerator = false
  nd : N.Nodup
  pre : N.take P.length = P
  par : ∀ x ∈ P, sc.names.lookup x = some .local ∨ sc.names.lookup x = some .cell
  nofree : ∀ y ∈ sc.names, y.2 ≠ .free

theorem bindL_out {kindOf : Str → Option NameKind} {x : Str} : ∀ {binds : List (Str × Value)} {m : Str → Option Value}, (∀ v, (x, v) ∉ binds) → bindL kindOf binds m x = m x
  | [], _, _ => rfl
  | (n, v) :: r, m, h => by
    unfold bindL
    rw [bindL_out fun w hw => h w (List.mem_cons_of_mem _ hw)]
    split
    · have : x ≠ n := by rintro rfl; exact h v List.mem_cons_self
      simp [this]
    · rfl
theorem bindC_out {kindOf : Str → Option NameKind} {x : Str} : ∀ {binds : List (Str × Value)} {m : Str → Option Value}, (∀ v, (x, v) ∉ binds) → bindC kindOf binds m x = m x
  | [], _, _ => rfl
  | (n, v) :: r, m, h => by
    unfold bindC
    rw [bindC_out fun w hw => h w (List.mem_cons_of_mem _ hw)]
    split
    · rfl
    · have : x ≠ n := by rintro rfl; exact h v List.mem_cons_self
      simp [this]
theorem bindL_get {kindOf : Str → Option NameKind} {x : Str} {v : Value} : ∀ {P : List Str} {vs : List Value} {i : Nat} {m : Str → Option Value}, P.Nodup → P[i]? = some x → vs[i]? = some v → kindOf x = some .local →
    bindL kindOf (P.zip vs) m x = some v
  | [], _, _, _, _, h, _, _ => by simp at h
  | _ :: _, [], _, _, _, _, h, _ => by simp at h
  | p :: P, w :: vs, 0, m, nd, h1, h2, hk => by
    simp at h1 h2; subst h1; subst h2
    show bindL kindOf ((p, w) :: P.zip vs) m p = _
    unfold bindL
    rw [bindL_out fun v hv => (List.nodup_cons.mp nd).1 (List.of_mem_zip hv).1, if_pos hk]
    simp
  | p :: P, w :: vs, i + 1, m, nd, h1, h2, hk => by
    show bindL kindOf ((p, w) :: P.zip vs) m x = _
    unfold bindL
    exact bindL_get (i := i) (List.nodup_cons.mp nd).2 (by simpa using h1) (by simpa using h2) hk
theorem bindC_get {kindOf : Str → Option NameKind} {x : Str} {v : Value} : ∀ {P : List Str} {vs : List Value} {i : Nat} {m : Str → Option Value}, P.Nodup → P[i]? = some x → vs[i]? = some v → kindOf x ≠ some .local →
    bindC kindOf (P.zip vs) m x = some v
  | [], _, _, _, _, h, _, _ => by simp at h
  | _ :: _, [], _, _, _, _, h, _ => by simp at h
  | p :: P, w :: vs, 0, m, nd, h1, h2, hk => by
    simp at h1 h2; subst h1; subst h2
    show bindC kindOf ((p, w) :: P.zip vs) m p = _
    unfold bindC
    rw [bindC_out fun v hv => (List.nodup_cons.mp nd).1 (List.of_mem_zip hv).1, if_neg hk]
    simp
  | p :: P, w :: vs, i + 1, m, nd, h1, h2, hk => by
    show bindC kindOf ((p, w) :: P.zip vs) m x = _
    unfold bindC
    exact bindC_get (i := i) (List.nodup_cons.mp nd).2 (by simpa using h1) (by simpa using h2) hk

/-- the names' values at the entry -/
def start (N : List Str) (vs : List V) : St := vs.map some ++ List.replicate (N.length - vs.length) none

/-- the context of a def's body, at its entry; an exception leaves the frame, then lies as CX says -/
def cxOf (CX : CXT) (P : Program) (w : World) (K : PySem.W.Frag) (mg : Str → Option Value) (base : Heap) (N : List Str) (qual : Str) (scope : Scope) (f : Addr) (cd : Value) (A : Around) (outer : List Env) (s : Shared) (H : Hp) (E : XK) : Cx where
  prog := P
  w := w
  K := K
  mg := mg
  base := base
  A := A.deeper (envOfC qual scope s.heap.objs.size f cd)
  N := N
  s₀ := s
  H₀ := H
  env := envOfC qual scope s.heap.objs.size f cd
  outer := outer
  stack := envOfC qual scope s.heap.objs.size f cd :: outer
  ex := []
  calm := true
  fn := fun _ => true
  pn := []
  xe := fun e s' => wpAny (model P w) (A.deeper (envOfC qual scope s.heap.objs.size f cd)) (leaving (envOfC qual scope s.heap.objs.size f cd) e) (fun _ s'' => CX outer H s E e s'') (fun e' s'' => CX outer H s E e' s'') s'

theorem cell_has {sc : Scope} {n : Nat} {x : Str} (h : sc.names.lookup x = some .cell) : ∃ c, (cellsFrom n sc.names []).lookup x = some c := by
  have q := PySem.W.cellsFrom_some sc.names n [] (.inl h)
  exact Option.isSome_iff_exists.mp q

theorem inv_start {CX : CXT} {P : Program} {w : World} {K : PySem.W.Frag} {mg : Str → Option Value} {base : Heap} {N ps : List Str} {qual : Str} {scope : Scope} {f : Addr} {cd : Value} {A : Around} {outer : List Env} {s s1 : Shared} {H : Hp} {E : XK} {us : List Value} {vs : List V}
    (S : FnScope N ps scope) (hd : A.handled = none) (e0 : Env0 P w K mg base A outer s H) (hl : vs.length = ps.length) (r : Vals vs us)
    (x : InCallC s s.heap.objs.size (bindL (envOfC qual scope s.heap.objs.size f cd).kindOf (ps.zip us) fun _ => none) (cellsFrom (s.heap.objs.size + 1) scope.names []) (bindC (envOfC qual scope s.heap.objs.size f cd).kindOf (ps.zip us) fun _ => none) s1) :
    Inv (cxOf CX P w K mg base N qual scope f cd A outer s H E) [] (start N vs) H s1 := by
  have hpl : ps.length ≤ N.length := by have := congrArg List.length S.pre; rw [List.length_take] at this; omega
  obtain ⟨h1, tk, rfl, hk⟩ := x.done
  have noA : ∀ b : Addr, b ∉ (cxOf CX P w K mg base N qual scope f cd A outer s H E).ex := fun b z => absurd (show b ∈ ([] : List Addr) from z) (by simp)
  refine ⟨⟨e0.mod, S.kind, rfl, rfl, Nat.le_refl _, fun y z c h1 h2 => ?_, fun y hy => ?_, fun y c _ h => ?_, fun _ => hd, Around.frames_deeper e0.frames, .inr ⟨rfl, rfl⟩, fun b z => absurd z (noA b), e0.bs, e0.bsz, fun b _ _ => noA b, fun b z => absurd z (noA b), e0.funs, e0.frf⟩,
    rfl, e0.bare, Un.kept hk, ⟨_, x.toInCall.ns, fun i y v h1 h2 h3 => ?_⟩, fun y c h => ⟨_, x.cell y c h⟩, e0.hok.fresh (Nat.le_refl _), fun y c h => ?_, fun p hp => absurd (show p ∈ ([] : List (Addr × Obj)) from hp) (by simp), e0.hok.kept hk, ?_⟩
  · exact name_of_addr x.apart (PySem.mem_of_lookup h1) (PySem.mem_of_lookup h2)
  · have hy : scope.names.lookup y = some .cell ∨ scope.names.lookup y = some .free := hy
    rcases hy with hy | hy
    · exact cell_has hy
    · exact absurd rfl (S.nofree _ (PySem.mem_of_lookup hy))
  · exact Nat.le_of_lt (x.above y c (PySem.mem_of_lookup h))
  · have hi : i < vs.length := by
      unfold start at h2
      by_cases hi : i < vs.length
      · exact hi
      · rw [List.getElem?_append_right (by simpa using hi)] at h2
        rw [List.getElem?_replicate] at h2
        split at h2 <;> cases h2
    have ha : vs[i]? = some v := by
      unfold start at h2
      rw [List.getElem?_append_left (by simpa using hi), List.getElem?_map] at h2
      cases e : vs[i]? with
      | none => rw [e] at h2; cases h2
      | some a => rw [e] at h2; cases h2; rfl
    obtain ⟨u, hu, rv⟩ := r.get ha
    have hp : ps[i]? = some y := by
      rw [← S.pre, List.getElem?_take_of_lt (by omega)]; exact h1
    have ndP : ps.Nodup := by rw [← S.pre]; exact S.nd.sublist (List.take_sublist _ _)
    refine ⟨u, rv, ?_⟩
    rcases S.par y (List.mem_of_getElem? hp) with k | k
    · exact .inl ⟨k, bindL_get ndP hp hu k⟩
    · obtain ⟨c, e⟩ := cell_has (n := s.heap.objs.size + 1) k
      refine .inr ⟨.inl k, c, e, ?_⟩
      have q := x.cell y c e
      rw [bindC_get ndP hp hu (by show scope.names.lookup y ≠ _; rw [k]; decide)] at q
      exact q
  · exact e0.hok.fresh (Nat.le_of_lt (x.above y c (PySem.mem_of_lookup h)))
  · unfold start
    show _ = N.length
    rw [List.length_append, List.length_map, List.length_replicate]
    omega

/-- THE RULE: a def (or a method) of the text, by its body. The body's reading t is chosen for each entry; it is run at the parameters' values -/
theorem fn_of {CX : CXT} {P : Program} {w : World} {K : PySem.W.Frag} {mg : Str → Option Value} {base : Heap} {k : Nat} {f : Addr} {name qual : Str} {params : Arguments} {body : List Stmt} {scope : Scope} {dV kV doc pm cdv ct oc : Value} {an od : Option Addr}
    {osl : Array (Option Value)} {N ps : List Str} {sp : Sp} (lk : K.lookup f = some ⟨oc, od, .func (PySem.W.fnOf name qual params body scope dV kV doc pm an cdv ct), osl⟩) (hcd : PySem.W.codeIn K cdv qual = true) (S : FnScope N ps scope)
    (len : ∀ vs H Q E, sp vs H Q E → vs.length = ps.length)
    (hbody : ∀ (A : Around) (outer : List Env) (s : Shared) (H : Hp) (vs : List V) (Q : VK) (E : XK), Room k (A.deeper (envOfC qual scope s.heap.objs.size f cdv)) → sp vs H Q E →
      ∃ t, PSs (cxOf CX P w K mg base N qual scope f cdv A outer s H E) body t ∧ t { nx := fun _ H' => Q .non H', rt := Q } (start N vs) H) :
    FnOk P w K mg base CX (k + 1) f (PySem.W.fnOf name qual params body scope dV kV doc pm an cdv ct) ps sp := by
  refine ⟨len, fun A outer s H args us vs Q E hr e0 hb r hsp => ?_⟩
  have hl := len _ _ _ _ hsp
  have KX : K.In s.heap := e0.mod.kin.keeps fun b o e => (e0.bs b o e).1
  have lim : s.heap.NoLimit := e0.mod.nolimit.keeps fun b o e => (e0.bs b o e).1
  have hkind : ∀ y ∈ ps.zip us, scope.names.lookup y.1 = some .local ∨ (scope.names.lookup y.1 = some .cell ∧ ((cellsFrom (s.heap.objs.size + 1) scope.names []).lookup y.1).isSome = true) := fun ⟨n, v⟩ hy => by
    rcases S.par n (List.of_mem_zip hy).1 with q | q
    · exact .inl q
    · exact .inr ⟨q, PySem.W.cellsFrom_some _ _ _ (.inl q)⟩
  refine codeAny_call_function hr.depth (KX _ _ lk) rfl S.co S.gen rfl (PySem.W.codeRec_of KX hcd) (hb _ _ _ _ ?_)
  refine wpAny_newFunctionEnv_cells S.kind hkind fun env he s1 x => ?_
  subst he
  refine ⟨lim.keeps x.toInCall.keep, codeAny_func ?_⟩
  obtain ⟨t, ht, hq⟩ := hbody A outer s H vs Q E (hr.deeper _) hsp
  have I : Inv (cxOf CX P w K mg base N qual scope f cdv A outer s H E) [] (start N vs) H s1 := inv_start S hr.hd e0 hl r x
  refine wpAny_mono (ht [] s1 (start N vs) H _ I hq) (fun fl s' hs => ?_) fun e s' hs => hs
  have fin : ∀ {σ' : St} {H' : Hp} {v : V} {u : Value}, Inv (cxOf CX P w K mg base N qual scope f cdv A outer s H E) [] σ' H' s' → RelV v u → Q v H' → CE outer P w H s Q u s' :=
    fun {σ' H' v u} J rv q => ⟨v, H', J.os, J.bare, J.base, J.hok, rv, q⟩
  cases fl with
  | ret u =>
    obtain ⟨v, σ', H', J, rv, q⟩ := hs
    exact fin J rv q
  | next =>
    obtain ⟨σ', H', J, q⟩ := hs
    exact fin (v := V.non) (u := Value.none) J rfl q
  | brk =>
    obtain ⟨_, _, _, q⟩ := hs
    exact False.elim q
  | cont =>
    obtain ⟨_, _, _, q⟩ := hs
    exact False.elim q
end L2

namespace L2
open PySem PySem.Spec PyProof.Rows
section
variable {X : Cx} {x : Str} {p pos : Pos} {e : Expr} {es : List Expr} {t : TA} {id T : String} {r : List V → Hp → VK → Prop}

def tCB (r : List V → Hp → VK → Prop) (t : TA) : TE := fun σ H Q => t σ H fun vs H1 => r vs H1 Q
/-- f(e, ..), f a built-in function -/
theorem pe_callB (hc : CallR X (.builtin id) r) (hg : Gl X x) (hm : X.mg x = none) (hv : bootBuiltins x = some (.builtin id)) (ha : PA X (e :: es) t) (hn : x ≠ "__name__" := by decide) (hdb : (x == ("__debug__" : Str)) = false := by decide)
    (he : starEach (e :: es) X.env = (false, eval e X.env) :: starEach es X.env := by rfl) (hpl : (backTo pos (starEach es X.env)).any (·.1) = false := by rfl) : PE X (.Call (.Name x p) (e :: es) [] pos) (tCB r t) := by
  intro pins s σ H Q I h
  refine wpAny_Call_Name_kw (ld_blt I hg hm hv ?_ hn hdb)
  exact PyProof.Rows.callWith_builtin1 (thn (ha pos pins s σ H _ I h) fun us s1 ⟨vs, H1, I1, r1, q1⟩ => hc pins s1 σ H1 vs us Q I1 r1 q1) he hpl
end
end L2

namespace HT
open PySem PyProof.Rows

section
open PySem.SeqAt
open PySem.AutoSeq1 (wpAny_loadPart')
open PySem.MeetsSeq PySem.MeetsSeq2 PySem.MeetsSeq3

end

section
variable {prog : Program} {w : World} {A : Around} {E : Value → Shared → Prop} {s : Shared}

/-! ### t[a:b], not the whole -/
/-- a slice's bound as a place among n (d where it is left out) -/
def sIx (n d : Nat) : Option Int → Nat
  | none => d
  | some v => if v < 0 then (v + (n : Int)).toNat else min v.toNat n
end
end HT

namespace L2
open PySem PySem.Spec PyProof.Rows

/-! ### the parts of a slice -/
abbrev TO := St → Hp → (Option Int → Hp → Prop) → Prop
/-- a slice's part (left out, or an int) -/
def PO (X : Cx) (e : Option Expr) (t : TO) : Prop :=
  ∀ (pins : List (Addr × Obj)) (s : Shared) (σ : St) (H : Hp) (Q : Option Int → Hp → Prop), Inv X pins σ H s → t σ H Q →
    wpAny (model X.prog X.w) X.A (evalPart e X.env) (fun u s' => ∃ o H', Inv X pins σ H' s' ∧ IsPart u o ∧ Q o H') X.xe s
def tNoPart : TO := fun _ H Q => Q none H
def tPart (t : TE) : TO := fun σ H Q => t σ H fun x H1 => ∃ i, x = .int i ∧ Q (some i) H1

theorem intsAre_of {ns : List Int} : ∀ {us : List Value}, Vals (ns.map V.int) us → IntsAre us ns := by
  induction ns with
  | nil => intro us r; rw [List.map_nil] at r; cases r; exact .nil
  | cons n ns ih =>
    intro us r
    rw [List.map_cons] at r
    cases r with
    | cons r1 r2 =>
      obtain ⟨t, e⟩ := r1
      subst e
      exact .cons n t (ih r2)

section
variable {X : Cx} {e : Expr} {te : TE} {lo hi : Option Expr} {tl th : TO} {pos p2 : Pos}

theorem po_none : PO X none tNoPart := by
  intro pins s σ H Q I h
  rw [evalPart_none]
  exact wpAny_pure ⟨none, H, I, .none, h⟩
theorem po_some (h : PE X e te) : PO X (some e) (tPart te) := by
  intro pins s σ H Q I hw
  rw [evalPart_some]
  refine thn (h pins s σ H _ I hw) fun u s1 ⟨x, H1, I1, r1, q1⟩ => ?_
  obtain ⟨i, rfl, q⟩ := q1
  obtain ⟨t, rfl⟩ := r1
  exact ⟨some i, H1, I1, .int i t, q⟩

/-- what a slice of a value is, by values: the slice object stands at sl -/
def SlR (X : Cx) (r : V → Option Int → Option Int → Hp → VK → Prop) : Prop :=
  ∀ (pins : List (Addr × Obj)) (s : Shared) (σ : St) (H : Hp) (x : V) (v vl vu : Value) (lo hi : Option Int) (sl : Addr) (Q : VK), Inv X pins σ H s → RelV x v → s.heap.IsSliceOf sl vl vu .none → IsPart vl lo → IsPart vu hi → r x lo hi H Q →
    ∃ T id, typeLookup (.type T) "__getitem__" = pure (some (.builtin id)) ∧ s.TypeIs v T ∧ wpAny (model X.prog X.w) X.A (getItem v (.ref sl)) (EP X pins σ Q) X.xe s
def tSl (r : V → Option Int → Option Int → Hp → VK → Prop) (te : TE) (tl th : TO) : TE := fun σ H Q => te σ H fun x H1 => tl σ H1 fun l H2 => th σ H2 fun u H3 => r x l u H3 Q
/-- a[lo:hi], any a -/
theorem pe_slice {r : V → Option Int → Option Int → Hp → VK → Prop} (hr : SlR X r) (he : PE X e te) (hl : PO X lo tl) (hu : PO X hi th) : PE X (.Subscript e (.Slice lo hi none p2) pos) (tSl r te tl th) := by
  intro pins s σ H Q I h
  refine Subscript_ (thn (he pins s σ H _ I h) fun v s1 ⟨x, H1, I1, r1, q1⟩ => ?_)
  refine wpAny_Slice (thn (hl pins s1 σ H1 _ I1 q1) fun vl s2 ⟨l, H2, I2, pl, q2⟩ => thn (hu pins s2 σ H2 _ I2 q2) fun vu s3 ⟨u, H3, I3, pu, q3⟩ => ?_)
  rw [evalPart_none]
  refine wpAny_pure ?_
  have I4 : Inv X pins σ H3 { s3 with heap := s3.heap.push { cls := .type "slice", data := .fields #[vl, vu, .none] } } := I3.kept (t' := s3.toks) fun b ob q => Heap.get?_push_of_some _ q
  obtain ⟨T, id, hT, ht, hg⟩ := hr pins { s3 with heap := s3.heap.push { cls := .type "slice", data := .fields #[vl, vu, .none] } } σ H3 x v vl vu l u s3.heap.objs.size Q I4 r1 (Heap.IsSliceOf.new ..) pl pu q3
  show wpAny (model X.prog X.w) X.A (subscriptTail e (.Slice lo hi none p2) v (.ref s3.heap.objs.size)) (EP X pins σ Q) X.xe { s3 with heap := s3.heap.push { cls := .type "slice", data := .fields #[vl, vu, .none] } }
  exact tail_any (ops := [.ref s3.heap.objs.size, v]) ht hT hg (by with_unfolding_all rfl)

/-- the items of xs[lo:hi] -/
def cutV (xs : List V) (lo hi : Option Int) : List V := (xs.drop (HT.sIx xs.length 0 lo)).take (HT.sIx xs.length xs.length hi - HT.sIx xs.length 0 lo)
theorem cutV_length (xs : List V) (lo hi : Option Int) : (cutV xs lo hi).length ≤ xs.length := by
  unfold cutV
  rw [List.length_take, List.length_drop]
  omega
end
end L2

namespace L2
open PySem PySem.Spec PyProof.Rows

/-! ### places -/
/-- the place that an index of any sign means -/
def ixN (n : Nat) (i : Int) : Option Nat := if 0 ≤ i then (if i < n then some i.toNat else none) else if -(n : Int) ≤ i then some (i + n).toNat else none
def atI {α : Type} (xs : List α) (i : Int) : Option α := (ixN xs.length i).bind fun j => xs[j]?
theorem ixN_seq {n : Nat} {i : Int} {j : Nat} (h : ixN n i = some j) : seqIndex? i n = some j ∧ j < n ∧ -(n : Int) ≤ i ∧ i < n := by
  unfold ixN at h
  by_cases h0 : 0 ≤ i
  · rw [if_pos h0] at h
    by_cases h1 : i < n
    · rw [if_pos h1] at h
      have e : i.toNat = j := Option.some.inj h
      exact ⟨by rw [seqIndex_of h0 h1, e], by omega, by omega, h1⟩
    · rw [if_neg h1] at h; cases h
  · rw [if_neg h0] at h
    by_cases h1 : -(n : Int) ≤ i
    · rw [if_pos h1] at h
      have e : (i + n).toNat = j := Option.some.inj h
      exact ⟨by rw [seqIndex_neg (by omega) h1, e], by omega, h1, by omega⟩
    · rw [if_neg h1] at h; cases h
theorem atI_get {α : Type} {xs : List α} {i : Int} {v : α} (h : atI xs i = some v) : ∃ j, seqIndex? i xs.length = some j ∧ xs[j]? = some v ∧ j < xs.length ∧ -(xs.length : Int) ≤ i ∧ i < xs.length := by
  unfold atI at h
  cases e : ixN xs.length i with
  | none => rw [e] at h; cases h
  | some j =>
    rw [e] at h
    obtain ⟨h1, h2, h3, h4⟩ := ixN_seq e
    exact ⟨j, h1, h, h2, h3, h4⟩
theorem atI_nat {α : Type} {xs : List α} {j : Nat} {v : α} (h : xs[j]? = some v) : atI xs (j : Int) = some v := by
  have hj : j < xs.length := (List.getElem?_eq_some_iff.mp h).1
  have e : ixN xs.length (j : Int) = some j := by
    unfold ixN
    rw [if_pos (by omega), if_pos (by omega)]; simp
  unfold atI; rw [e]; exact h
/-! ### what may be subscripted -/
/-- what stands as an index of a plain subscript -/
def PlainIx (b : Expr) : Prop := ∀ o i, subscripted b false o i = operate [o, i] (getItem o i)
/-- a subscript by values -/
def IxR (X : Cx) (r : R2) : Prop :=
  ∀ (value slice : Expr) (pins : List (Addr × Obj)) (s : Shared) (σ : St) (H : Hp) (x y : V) (v u : Value) (Q : VK), Inv X pins σ H s → RelV x v → RelV y u → r x y H Q →
    subscripted slice false v u = operate [v, u] (getItem v u) → wpAny (model X.prog X.w) X.A (subscriptTail value slice v u) (EP X pins σ Q) X.xe s
/-- a call of a builtin's method by values: the receiver, the arguments -/
def MtR (X : Cx) (id : String) (r : V → List V → Hp → VK → Prop) : Prop :=
  ∀ (pins : List (Addr × Obj)) (s : Shared) (σ : St) (H : Hp) (x : V) (xs : List V) (v : Value) (us : List Value) (Q : VK), Inv X pins σ H s → RelV x v → Vals xs us → r x xs H Q →
    wpAny (model X.prog X.w) X.A (call (.builtin id) (v :: us)) (EP X pins σ Q) X.xe s
section
variable {X : Cx} {a b : Expr} {ta tb : TE} {pos : Pos}
/-- a[b] -/
theorem pe_ix {r : R2} (hr : IxR X r) (ha : PE X a ta) (hb : PE X b tb) (hs : PlainIx b) : PE X (.Subscript a b pos) (tOp r ta tb) := by
  intro pins s σ H Q I h
  exact Subscript_ (binT ha hb I h fun v u s2 x y H2 I2 rx ry q => hr a b pins s2 σ H2 x y v u Q I2 rx ry q (hs _ _))

def rIxL (K : PySem.W.Frag) : R2 := fun x y H Q => ∃ p xs i v, x = .ref p ∧ y = .int i ∧ SqL K H p xs ∧ atI xs i = some v ∧ Q v H
def rIxT (K : PySem.W.Frag) : R2 := fun x y H Q => ∃ p xs i v, x = .ref p ∧ y = .int i ∧ SqT K H p xs ∧ atI xs i = some v ∧ Q v H
theorem ix_list : IxR X (rIxL X.K) := by
  intro value slice pins s σ H x y v u Q I rx ry h hs
  obtain ⟨p, xs, i, z, rfl, rfl, hq, he, q⟩ := h
  cases rx
  obtain ⟨t, rfl⟩ := ry
  obtain ⟨its, r, pl, hz⟩ := I.list hq
  obtain ⟨j, h1, h2, h3, h4, h5⟩ := atI_get he
  obtain ⟨w, ew, rw'⟩ := r.get h2
  have hl := r.length
  have hn := line63
  have fin : EP X pins σ Q w s := ⟨z, H, I, rw', q⟩
  by_cases h0 : 0 ≤ i
  · have hj : i.toNat = j := by
      rw [seqIndex_of h0 h5] at h1
      exact Option.some.inj h1
    exact item_listR pl.isList h0 (by omega) (by rw [hj]; simpa using ew) fin hs
  · have hj : (i + (its.toArray.size : Int)).toNat = j := by
      rw [seqIndex_neg (by omega) h4] at h1
      rw [List.size_toArray, ← hl]
      exact Option.some.inj h1
    exact subscriptTail_builtinR (x := w) pl.isList.typeIs slot_list_getitem.lookup
      (wpAny_getItem_list_neg (Q := fun r s' => r = w ∧ EP X pins σ Q r s') pl.isList (by omega) (by rw [List.size_toArray] <;> omega) (by omega) (by rw [hj]; simpa using ew) ⟨rfl, fin⟩) hs
theorem ix_tup : IxR X (rIxT X.K) := by
  intro value slice pins s σ H x y v u Q I rx ry h hs
  obtain ⟨p, xs, i, z, rfl, rfl, hq, he, q⟩ := h
  cases rx
  obtain ⟨t, rfl⟩ := ry
  obtain ⟨its, r, pl, hz⟩ := I.tuple hq
  obtain ⟨j, h1, h2, h3, h4, h5⟩ := atI_get he
  obtain ⟨w, ew, rw'⟩ := r.get h2
  have hl := r.length
  have hn := line63
  have fin : EP X pins σ Q w s := ⟨z, H, I, rw', q⟩
  exact subscriptTail_builtinR (x := w) pl.typeIs slot_tuple_getitem.lookup
    (getItem_tuple (j := j) (Q := fun r s' => r = w ∧ EP X pins σ Q r s') pl (by omega) (by omega) (by rw [List.size_toArray, ← hl]; exact h1) (by simpa using ew) ⟨rfl, fin⟩) hs
theorem Inv.lst {pins : List (Addr × Obj)} {σ : St} {H : Hp} {s : Shared} {p : Addr} {xs : List V} (I : Inv X pins σ H s) (h : H p = some (.lst xs)) :
    ∃ (its : List Value) (n : Nat), Vals xs its ∧ s.heap.get? p = some { cls := .type "list", data := .seq its.toArray n } ∧ xs.length ≤ sizeLine := by
  obtain ⟨z, its, n, r, e⟩ := I.hok p _ h
  exact ⟨its, n, r, e, z⟩
/-! ### slices -/
theorem slice_bounds (lo hi : Option Int) (n : Nat) : (sliceBounds lo hi none n).1 = ((HT.sIx n 0 lo : Nat) : Int) ∧ (sliceBounds lo hi none n).2.1 = ((HT.sIx n n hi : Nat) : Int) ∧ (sliceBounds lo hi none n).2.2 = 1 := by
  refine ⟨?_, ?_, rfl⟩
  · cases lo with
    | none => simp [sliceBounds, HT.sIx]
    | some i =>
      simp only [sliceBounds, HT.sIx, Option.getD_none, show (1 : Int) > 0 by decide, if_true]
      by_cases h : i < 0
      · simp only [h, if_true] <;> omega
      · simp only [h, if_false] <;> omega
  · cases hi with
    | none => simp [sliceBounds, HT.sIx]
    | some i =>
      simp only [sliceBounds, HT.sIx, Option.getD_none, show (1 : Int) > 0 by decide, if_true]
      by_cases h : i < 0
      · simp only [h, if_true] <;> omega
      · simp only [h, if_false] <;> omega
theorem slicePick_cut (its : List Value) (lo hi : Option Int) : slicePick its.toArray lo hi none = ((its.drop (HT.sIx its.length 0 lo)).take (HT.sIx its.length its.length hi - HT.sIx its.length 0 lo)).toArray := by
  obtain ⟨h1, h2, h3⟩ := slice_bounds lo hi its.toArray.size
  unfold slicePick
  rw [h1, h2, h3]
  simp only [sliceRange_one, pick_run, List.size_toArray] <;> rfl
/-- xs[lo:hi] of a list: a new list -/
def rSlL (K : PySem.W.Frag) : V → Option Int → Option Int → Hp → VK → Prop := fun x lo hi H Q => ∃ a xs, x = .ref a ∧ SqL K H a xs ∧ ∀ p, H p = none → Q (.ref p) (upd H p (.lst (cutV xs lo hi)))
theorem sl_list : SlR X (rSlL X.K) := by
  intro pins s σ H x v vl vu lo hi sl Q I rx hs pl pu h
  obtain ⟨a, xs, rfl, hx, q⟩ := h
  cases rx
  obtain ⟨its, r, ht, hz⟩ := I.list hx
  have hlen := r.length
  refine ⟨"list", _, slot_list_getitem.lookup, ht.isList.typeIs, ?_⟩
  refine wpAny_getItem_list_slice ht.isList hs pl pu .none (by simp) ?_ (by rw [List.size_toArray] <;> omega)
  rw [slicePick_cut, ← hlen]
  refine ⟨.ref s.heap.objs.size, _, I.laid (t' := s.toks) (o := .lst (cutV xs lo hi)) (fun b ob q => Heap.get?_push_of_some _ q) (Nat.le_refl _) ?_, rfl, q _ (I.hok.fresh (Nat.le_refl _))⟩
  exact ⟨Nat.le_trans (cutV_length xs lo hi) hz, _, 0, (r.drop (HT.sIx xs.length 0 lo)).take (HT.sIx xs.length xs.length hi - HT.sIx xs.length 0 lo), Heap.get?_push_size _ rfl⟩

/-! ### len, list(x), tuple(x) of any list or tuple that is read -/
theorem call_len_seq : CallR X (.builtin "len") (fun xs H Q => ∃ p ys, xs = [.ref p] ∧ (SqL X.K H p ys ∨ SqT X.K H p ys) ∧ Q (.int ys.length) H) := by
  intro pins s σ H xs us Q I r h
  obtain ⟨p, ys, rfl, hq, q⟩ := h
  obtain ⟨u, rfl, rx⟩ := vals1 r
  cases rx
  have hn := line63
  rcases hq with hq | hq
  · obtain ⟨its, r', pl, hz⟩ := I.list hq
    have hlen := r'.length
    exact Calls.call_len_list pl.isList (by simp only [List.size_toArray] <;> omega) ⟨.int ys.length, H, I.tok _, ⟨s.toks + 1, by rw [List.size_toArray, hlen]⟩, q⟩
  · obtain ⟨its, r', pl, hz⟩ := I.tuple hq
    have hlen := r'.length
    exact len_tuple pl (by simp only [List.size_toArray] <;> omega) ⟨.int ys.length, H, I.tok _, ⟨s.toks + 1, by rw [List.size_toArray, hlen]⟩, q⟩
/-! ### the call of a builtin's method: o.m(..) -/
/-- the value is of that builtin type -/
def tyV (K : PySem.W.Frag) (T : String) (x : V) (H : Hp) : Prop := match x with
  | .str _ => T = "str"
  | .int _ => T = "int"
  | .ref p => (T = "list" ∧ ∃ xs, SqL K H p xs) ∨ (T = "tuple" ∧ ∃ o, K.lookup p = some o ∧ o.cls = .type "tuple" ∧ o.dict = none) ∨
      (T = "dict" ∧ ((∃ kvs, H p = some (.dK kvs)) ∨ ∃ kvs, H p = some (.dT kvs))) ∨ (T = "set" ∧ ∃ S n, H p = some (.set S n))
  | _ => False
theorem tyV_is {pins : List (Addr × Obj)} {σ : St} {H : Hp} {s : Shared} {T : String} {x : V} {v : Value} (I : Inv X pins σ H s) (r : RelV x v) (ty : tyV X.K T x H) :
    s.TypeIs v T ∧ ∀ a, v = .ref a → ∃ ob, s.heap.get? a = some ob ∧ ob.dict = none := by
  cases x with
  | str z =>
    obtain ⟨t, rfl⟩ := r
    cases (show T = "str" from ty)
    exact ⟨typeIs_str s z t, fun _ e => nomatch e⟩
  | int i =>
    obtain ⟨t, rfl⟩ := r
    cases (show T = "int" from ty)
    exact ⟨typeIs_int s i t, fun _ e => nomatch e⟩
  | ref p =>
    cases r
    rcases ty with ⟨rfl, xs, hq⟩ | ⟨rfl, o, hk, hc, hd⟩ | ⟨rfl, hk⟩ | ⟨rfl, S, n, hk⟩
    · obtain ⟨its, _, pl, _⟩ := I.list hq
      refine ⟨pl.isList.typeIs, fun a e => ?_⟩
      cases e
      obtain ⟨o, n, e, c, hd, _⟩ := pl
      exact ⟨o, e, hd⟩
    · refine ⟨⟨o, I.kIn p o hk, hc⟩, fun a e => ?_⟩
      cases e
      exact ⟨o, I.kIn _ o hk, hd⟩
    · have z : ∃ o, s.heap.get? p = some o ∧ o.ExactDict := by
        rcases hk with ⟨kvs, hk⟩ | ⟨kvs, hk⟩
        · obtain ⟨_, _, _, _, o, _, _, e, ex, _⟩ := I.hok p _ hk
          exact ⟨o, e, ex⟩
        · obtain ⟨_, _, _, _, o, _, _, e, ex, _⟩ := I.hok p _ hk
          exact ⟨o, e, ex⟩
      obtain ⟨o, e, ex⟩ := z
      refine ⟨⟨o, e, ex.1⟩, fun a e2 => ?_⟩
      cases e2
      exact ⟨o, e, ex.2.1⟩
    · obtain ⟨o, _, _, _, e, ex, _⟩ := I.hok p _ hk
      refine ⟨⟨o, e, ex.1⟩, fun a e2 => ?_⟩
      cases e2
      exact ⟨o, e, ex.2.1⟩
  | _ => exact False.elim ty
def tBM (K : PySem.W.Frag) (T : String) (r : V → List V → Hp → VK → Prop) (to : TE) (t : TA) : TE := fun σ H Q => to σ H fun x H1 => tyV K T x H1 ∧ t σ H1 fun xs H2 => r x xs H2 Q
variable {o e : Expr} {es : List Expr} {to : TE} {t : TA} {name : Str} {apos cpos : Pos} {T id : String} {r : V → List V → Hp → VK → Prop}
theorem pe_bm (pa : PlainAttrs T) (slot : Slot T name id) (hty : typeOf (.builtin id) = pure (.type "method_descriptor")) (hm : MtR X id r) (ho : PE X o to) (ha : PA X (e :: es) t)
    (hbase : attributeBase o name X.env (eval o X.env) = eval o X.env := by rfl)
    (hfew : ((backTo cpos (starEach (e :: es) X.env)).all (fun x => !x.1) && (backToKw cpos (keywordEach [] X.env)).all (fun x => x.1.isSome)
      && decide ((e :: es).length + ([] : List Keyword).length + (if ([] : List Keyword).isEmpty then 0 else 1) < 30)) = true := by rfl)
    (hline : (apos.endLine == cpos.line) = true := by rfl) (hs : starEach (e :: es) X.env = (false, eval e X.env) :: starEach es X.env := by rfl) (hplain : (backTo cpos (starEach es X.env)).any (·.1) = false := by rfl) :
    PE X (.Call (.Attribute o name apos) (e :: es) [] cpos) (tBM X.K T r to t) := by
  intro pins s σ H Q I h
  refine wpAny_Call_method_late hbase hfew hline rfl (thn (ho pins s σ H _ I h) fun v s1 ⟨x, H1, I1, r1, ty, q1⟩ => ?_)
  obtain ⟨h1, h2⟩ := tyV_is I1 r1 ty
  refine ⟨T, id, pa, slot, hty, h1, h2, ?_⟩
  have hA := ha cpos pins s1 σ H1 _ I1 q1
  rw [hs] at hA ⊢
  refine Calls.callWith_builtin (by show (false || (backTo cpos (starEach es X.env)).any (·.1)) = false; rw [hplain] <;> rfl) (Calls.evalArgs_plain ?_)
  exact thn hA fun us s2 ⟨vs, H2, I2, r2, q2⟩ => hm pins s2 σ H2 x vs v us Q I2 r1 r2 q2
/- xs.append(e), list.index on a module's tuple .. are MtR facts of 06m -/
end
end L2

namespace L2
open PySem PySem.Spec PyProof.Rows

def MtM (X : Cx) (id : String) (r : V → List V → Hp → VK → Prop) : Prop :=
  ∀ (pins : List (Addr × Obj)) (s : Shared) (σ : St) (H : Hp) (x : V) (xs : List V) (v : Value) (us : List Value) (Q : VK), Inv X pins σ H s → RelV x v → Vals xs us → r x xs H Q →
    wpAny (model X.prog X.w) X.A (call (.builtin id) (v :: us)) (EP X pins σ Q) X.xe s

/-! ### lists of values -/
theorem Vals.one : ∀ {x : V} {us : List Value}, Vals [x] us → ∃ u, us = [u] ∧ RelV x u
  | _, _, .cons r .nil => ⟨_, rfl, r⟩
theorem Vals.two : ∀ {x y : V} {us : List Value}, Vals [x, y] us → ∃ u v, us = [u, v] ∧ RelV x u ∧ RelV y v
  | _, _, _, .cons r (.cons q .nil) => ⟨_, _, rfl, r, q⟩
theorem Vals.eraseIdx : ∀ {xs : List V} {us : List Value} (i : Nat), Vals xs us → Vals (xs.eraseIdx i) (us.eraseIdx i)
  | _, _, _, .nil => .nil
  | _, _, 0, .cons _ t => t
  | _, _, i + 1, .cons r t => .cons r (Vals.eraseIdx i t)
theorem Vals.reverse {xs : List V} {us : List Value} (h : Vals xs us) : Vals xs.reverse us.reverse := by
  induction h with
  | nil => exact .nil
  | cons r t ih => rw [List.reverse_cons, List.reverse_cons]; exact Vals.append ih (.cons r .nil)
section
variable {X : Cx} {pins : List (Addr × Obj)} {σ : St} {H : Hp} {s : Shared} {l b : Addr} {xs ys zs : List V}

/-! ### the two steps: a tracked list is rewritten, a new list is laid -/
theorem Inv.lset {its its' : List Value} {n : Nat} {f : Array Value → Array Value} {t' : Nat} (I : Inv X pins σ H s) (hH : H l = some (.lst xs))
    (e : s.heap.get? l = some { cls := .type "list", data := .seq its.toArray n }) (hf : f its.toArray = its'.toArray) (hv : Vals ys its') (hz : ys.length ≤ sizeLine) :
    Inv X pins σ (upd H l (.lst ys)) { s with heap := s.heap.update l (Obj.mapSeq f), toks := t' } := by
  have q := PySem.IsL.update e f
  rw [hf] at q
  refine I.write (x := l) (e := l) (by rw [hH]; exact trivial) (.inl rfl) (fun b' u hb hu => (Heap.get?_update_other s.heap (Obj.mapSeq f) (Ne.symm hb)).trans hu) ⟨_, q⟩ ?_
  exact ⟨hz, its', _, hv, q⟩
theorem Inv.lnew {its : List Value} {t' : Nat} (I : Inv X pins σ H s) (hv : Vals ys its) (hz : ys.length ≤ sizeLine) :
    Inv X pins σ (upd H s.heap.objs.size (.lst ys)) { s with heap := s.heap.push { cls := .type "list", data := .seq its.toArray }, toks := t' } :=
  I.laid (fun _ _ q => Heap.get?_push_of_some _ q) (Nat.le_refl _) ⟨hz, its, 0, hv, Heap.get?_push_size _ rfl⟩
theorem Inv.fresh (I : Inv X pins σ H s) : H s.heap.objs.size = none := I.hok.fresh (Nat.le_refl _)
theorem Inv.lstM (I : Inv X pins σ H s) (hH : H l = some (.lst xs)) : xs.length ≤ sizeLine ∧ ∃ (its : List Value) (n : Nat), Vals xs its ∧ xs.length = its.length ∧ s.heap.get? l = some { cls := .type "list", data := .seq its.toArray n } := by
  obtain ⟨z, its, n, r, e⟩ := I.hok l _ hH
  exact ⟨z, its, n, r, r.length, e⟩

end

section
variable {X : Cx}

/-! ### methods -/
def rAppend : V → List V → Hp → VK → Prop := fun x vs H Q => ∃ l xs y, x = .ref l ∧ vs = [y] ∧ H l = some (.lst xs) ∧ xs.length < sizeLine ∧ Q .non (upd H l (.lst (xs ++ [y])))
theorem mt_append : MtM X "list.append" rAppend := by
  intro pins s σ H x vs v us Q I rx rv h
  obtain ⟨l, xs, y, rfl, rfl, hH, hz, q⟩ := h
  cases rx
  obtain ⟨u, rfl, ru⟩ := rv.one
  obtain ⟨z, its, n, r, hl, e⟩ := I.lstM hH
  refine call_meets F.slot_list_append ⟨_, e, rfl⟩ F.entry_list_append (F.args_list_append_2 _ _) (PySem.list_append l its.toArray n u (by rw [List.size_toArray]; omega)) ⟨e, ?_⟩
  refine ⟨.non, _, I.lset (its' := its ++ [u]) hH e (by simp) (r.append (.cons ru .nil)) ?_, rfl, q⟩
  rw [List.length_append, List.length_singleton]
  omega

/-! ### list + list, list += list, list * int -/
def rCat : R2 := fun x y H Q => ∃ l b xs zs, x = .ref l ∧ y = .ref b ∧ H l = some (.lst xs) ∧ H b = some (.lst zs) ∧ xs.length + zs.length ≤ sizeLine ∧ ∀ p, H p = none → Q (.ref p) (upd H p (.lst (xs ++ zs)))
theorem op_cat : OpR X (binaryOp .Add) rCat := by
  intro pins s σ H x y v u Q I rx ry h
  obtain ⟨l, b, xs, zs, rfl, rfl, hH, hB, hz, q⟩ := h
  cases rx
  cases ry
  obtain ⟨z, its, n, r, hl, e⟩ := I.lstM hH
  obtain ⟨z2, its2, n2, r2, hl2, e2⟩ := I.lstM hB
  refine PySem.P.add_list e e2 ?_ (by rw [List.size_toArray, List.size_toArray]; omega)
  have ea : its.toArray ++ its2.toArray = (its ++ its2).toArray := by simp
  rw [ea]
  exact ⟨.ref _, _, I.lnew (t' := s.toks) (r.append r2) (by rw [List.length_append]; omega), rfl, q _ I.fresh⟩
end

/-! ### xs[a:b] = ys -/
section
variable {prog : Program} {w : World} {A : Around} {E : Value → Shared → Prop} {s : Shared}
end

section
variable {X : Cx}
end
end L2

namespace L2
open PySem PySem.Spec PyProof.Rows

/-! ### lists of pairs as tables -/
section
variable {κ : Type} [DecidableEq κ]
def valV (kvs : List (κ × V)) (k : κ) : Option V := (kvs.find? fun kv => decide (kv.1 = k)).map (·.2)
/-- in its place, or at the end -/
def putK (kvs : List (κ × V)) (k : κ) (v : V) : List (κ × V) :=
  if (kvs.any fun kv => decide (kv.1 = k)) = true then kvs.map (fun kv => if kv.1 = k then (kv.1, v) else kv) else kvs ++ [(k, v)]
def dropK (kvs : List (κ × V)) (k : κ) : List (κ × V) := kvs.filter fun kv => decide (kv.1 ≠ k)

theorem valV_nil {k : κ} : valV ([] : List (κ × V)) k = none := rfl
theorem valV_pos {p : κ × V} {r : List (κ × V)} {k : κ} (e : p.1 = k) : valV (p :: r) k = some p.2 := by simp [valV, List.find?_cons, e]
theorem valV_neg {p : κ × V} {r : List (κ × V)} {k : κ} (e : ¬ p.1 = k) : valV (p :: r) k = valV r k := by simp [valV, List.find?_cons, e]
theorem valV_any (k : κ) : ∀ kvs : List (κ × V), (kvs.any fun kv => decide (kv.1 = k)) = (valV kvs k).isSome
  | [] => rfl
  | p :: r => by
    rw [List.any_cons]
    by_cases e : p.1 = k
    · simp only [valV_pos e, decide_eq_true e, Bool.true_or, Option.isSome_some]
    · rw [valV_neg e, decide_eq_false e, Bool.false_or]; exact valV_any k r
theorem valV_map (k j : κ) (y : V) : ∀ kvs : List (κ × V), valV (kvs.map fun kv => if kv.1 = k then (kv.1, y) else kv) j = (valV kvs j).map fun x => if j = k then y else x
  | [] => rfl
  | p :: r => by
    have ih := valV_map k j y r
    rw [List.map_cons]
    by_cases h : p.1 = k
    · rw [if_pos h]
      by_cases e : p.1 = j
      · rw [valV_pos (p := (p.1, y)) e, valV_pos e, Option.map_some, if_pos (e.symm.trans h)]
      · rw [valV_neg (p := (p.1, y)) e, valV_neg e, ih]
    · rw [if_neg h]
      by_cases e : p.1 = j
      · rw [valV_pos (p := p) e, valV_pos e, Option.map_some, if_neg (fun z => h (e.trans z))]
      · rw [valV_neg (p := p) e, valV_neg e, ih]
theorem valV_snoc (k j : κ) (y : V) : ∀ kvs : List (κ × V), valV kvs k = none → valV (kvs ++ [(k, y)]) j = if j = k then some y else valV kvs j
  | [], _ => by
    by_cases e : k = j
    · rw [if_pos e.symm]; exact valV_pos (p := (k, y)) e
    · rw [if_neg (fun z => e z.symm)]; exact valV_neg (p := (k, y)) e
  | p :: r, hn => by
    rw [List.cons_append]
    have hk : ¬ p.1 = k := fun z => by rw [valV_pos z] at hn; cases hn
    rw [valV_neg hk] at hn
    have ih := valV_snoc k j y r hn
    by_cases e : p.1 = j
    · rw [valV_pos e, valV_pos e, if_neg (fun z => hk (e.trans z))]
    · rw [valV_neg e, valV_neg e, ih]
theorem valV_put (kvs : List (κ × V)) (k j : κ) (y : V) : valV (putK kvs k y) j = if j = k then some y else valV kvs j := by
  unfold putK
  by_cases a : (kvs.any fun kv => decide (kv.1 = k)) = true
  · rw [if_pos a, valV_map]
    rw [valV_any] at a
    by_cases e : j = k
    · obtain ⟨x, hx⟩ := Option.isSome_iff_exists.mp a
      rw [if_pos e, e, hx, Option.map_some, if_pos rfl]
    · rw [if_neg e]
      cases valV kvs j with
      | none => rfl
      | some x => rw [Option.map_some, if_neg e]
  · rw [if_neg a]
    refine valV_snoc k j y kvs ?_
    rw [valV_any] at a
    cases q : valV kvs k with
    | none => rfl
    | some x => rw [q] at a; exact (a rfl).elim
theorem length_putK (kvs : List (κ × V)) (k : κ) (v : V) : (putK kvs k v).length ≤ kvs.length + 1 := by
  unfold putK
  split
  · rw [List.length_map]; omega
  · rw [List.length_append, List.length_cons, List.length_nil]; omega
theorem RelO.isSome_eq {o : Option V} {u : Option Value} (r : RelO o u) : o.isSome = u.isSome := by
  cases o with
  | none => cases u with
    | none => rfl
    | some _ => exact (show False from r).elim
  | some _ => cases u with
    | none => exact (show False from r).elim
    | some _ => rfl
theorem RelO.getD {o : Option V} {u : Option Value} {d : V} {d' : Value} (r : RelO o u) (rd : RelV d d') : RelV (o.getD d) (u.getD d') := by
  cases o with
  | none => cases u with
    | none => exact rd
    | some _ => exact (show False from r).elim
  | some _ => cases u with
    | none => exact (show False from r).elim
    | some _ => exact r

/-- raw tables of the same keys -/
theorem KV.val {kvs : List (κ × V)} {vs : List (κ × Value)} (r : KV kvs vs) (k : κ) : RelO (valV kvs k) (valueAt vs k) := by
  unfold KV at r
  induction r with
  | nil => exact True.intro
  | @cons p q ps qs h t ih =>
    obtain ⟨h1, h2⟩ := h
    by_cases e : p.1 = k
    · have e' : q.1 = k := h1.symm.trans e
      have b : valueAt (q :: qs) k = some q.2 := by simp [valueAt, List.find?_cons, e']
      rw [valV_pos e, b]; exact h2
    · have e' : ¬ q.1 = k := fun z => e (h1.trans z)
      have b : valueAt (q :: qs) k = valueAt qs k := by simp [valueAt, List.find?_cons, e']
      rw [valV_neg e, b]; exact ih
theorem KV.any {kvs : List (κ × V)} {vs : List (κ × Value)} (r : KV kvs vs) (k : κ) : (kvs.any fun kv => decide (kv.1 = k)) = vs.any fun kv => decide (kv.1 = k) := by
  unfold KV at r
  induction r with
  | nil => rfl
  | cons h t ih => rw [List.any_cons, List.any_cons, ih, h.1]
theorem KV.repl {kvs : List (κ × V)} {vs : List (κ × Value)} (r : KV kvs vs) (k : κ) {y : V} {u : Value} (ry : RelV y u) :
    KV (kvs.map fun kv => if kv.1 = k then (kv.1, y) else kv) (vs.map fun kv => if kv.1 = k then (kv.1, u) else kv) := by
  unfold KV at r ⊢
  induction r with
  | nil => exact .nil
  | @cons p q ps qs h t ih =>
    rw [List.map_cons, List.map_cons]
    refine .cons ?_ ih
    obtain ⟨h1, h2⟩ := h
    by_cases e : p.1 = k
    · rw [if_pos e, if_pos (h1.symm.trans e)]; exact ⟨h1, ry⟩
    · rw [if_neg e, if_neg (fun z => e (h1.trans z))]; exact ⟨h1, h2⟩
theorem KV.put {kvs : List (κ × V)} {vs : List (κ × Value)} (r : KV kvs vs) (k : κ) {y : V} {u : Value} (ry : RelV y u) : KV (putK kvs k y) (stored vs k u) := by
  unfold putK stored
  rw [r.any k]
  by_cases e : (vs.any fun kv => decide (kv.1 = k)) = true
  · rw [if_pos e, if_pos e]; exact r.repl k ry
  · rw [if_neg e, if_neg e]; exact Paired.snoc r ⟨rfl, ry⟩
theorem KV.drop {kvs : List (κ × V)} {vs : List (κ × Value)} (r : KV kvs vs) (k : κ) : KV (dropK kvs k) (without vs k) := by
  unfold KV at r ⊢
  unfold dropK without
  induction r with
  | nil => exact .nil
  | @cons p q ps qs h t ih =>
    obtain ⟨h1, h2⟩ := h
    rw [List.filter_cons, List.filter_cons]
    by_cases e : p.1 = k
    · have a : ¬ decide (p.1 ≠ k) = true := by simp [e]
      have b : ¬ decide (q.1 ≠ k) = true := by simp [h1.symm.trans e]
      rw [if_neg a, if_neg b]; exact ih
    · have e' : ¬ q.1 = k := fun z => e (h1.trans z)
      have a : decide (p.1 ≠ k) = true := by simp [e]
      have b : decide (q.1 ≠ k) = true := by simp [e']
      rw [if_pos a, if_pos b]; exact .cons ⟨h1, h2⟩ ih
theorem KV.length {kvs : List (κ × V)} {vs : List (κ × Value)} (r : KV kvs vs) : kvs.length = vs.length := Paired.length r
end


/-! ### a tracked dict, its keys ints and texts or tuples of these -/
theorem kV_is {P : Program} {w : World} {k : Key} {u : Value} (r : RelV (kV k) u) : (mixKind P w).is k u = true := by
  cases k with
  | inl i => obtain ⟨t, e⟩ := (show ∃ t, u = Value.int i t from r); subst e; exact mixKind_int P w i t
  | inr x => obtain ⟨t, e⟩ := (show ∃ t, u = Value.str x t from r); subst e; exact mixKind_str P w x t
theorem items_are {P : Program} {w : World} : ∀ {ks : List Key} {us : List Value}, Vals (ks.map kV) us → ItemsAre (mixKind P w) ks us
  | [], _, r => by rw [List.map_nil] at r; cases r; exact .nil
  | k :: ks, _, r => by
    rw [List.map_cons] at r
    cases r with
    | cons h t => exact .cons (kV_is h) (items_are t)

/-- raw entries of a dict with tuple keys -/
abbrev KT (H : Hp) : List (List Key × V) → List (List Key × Addr × Value) → Prop := Paired fun p q => p.1 = q.1 ∧ H q.2.1 = some (.tup (p.1.map kV)) ∧ RelV p.2 q.2.2
theorem KT.val {H : Hp} {kvs : List (List Key × V)} {xs : List (List Key × Addr × Value)} (r : KT H kvs xs) (k : List Key) : RelO (valV kvs k) ((atKey xs k).map (·.2)) := by
  induction r with
  | nil => exact True.intro
  | @cons p q ps qs h t ih =>
    obtain ⟨h1, _, h2⟩ := h
    by_cases e : p.1 = k
    · have e' : q.1 = k := h1.symm.trans e
      have b : atKey (q :: qs) k = some q.2 := by simp [atKey, List.find?_cons, e']
      rw [valV_pos e, b]; exact h2
    · have e' : ¬ q.1 = k := fun z => e (h1.trans z)
      have b : atKey (q :: qs) k = atKey qs k := by simp [atKey, List.find?_cons, e']
      rw [valV_neg e, b]; exact ih
theorem KT.repl {H : Hp} {kvs : List (List Key × V)} {xs : List (List Key × Addr × Value)} (r : KT H kvs xs) (k : List Key) {y : V} {u : Value} (ry : RelV y u) :
    KT H (kvs.map fun kv => if kv.1 = k then (kv.1, y) else kv) (xs.map (putAt k u)) := by
  induction r with
  | nil => exact .nil
  | @cons p q ps qs h t ih =>
    rw [List.map_cons, List.map_cons]
    refine .cons ?_ ih
    obtain ⟨h1, h2, h3⟩ := h
    unfold putAt
    by_cases e : p.1 = k
    · rw [if_pos e, if_pos (h1.symm.trans e)]; exact ⟨h1, h2, ry⟩
    · rw [if_neg e, if_neg (fun z => e (h1.trans z))]; exact ⟨h1, h2, h3⟩
theorem KT.put {H : Hp} {kvs : List (List Key × V)} {xs : List (List Key × Addr × Value)} (r : KT H kvs xs) (k : List Key) {b : Addr} {y : V} {u : Value} (hb : H b = some (.tup (k.map kV))) (ry : RelV y u) :
    KT H (putK kvs k y) (storedH xs k b u) := by
  have e : (kvs.any fun kv => decide (kv.1 = k)) = (atKey xs k).isSome := by
    rw [valV_any, (r.val k).isSome_eq, Option.isSome_map]
  unfold putK storedH
  rw [e]
  by_cases q : (atKey xs k).isSome = true
  · rw [if_pos q, if_pos q]; exact r.repl k ry
  · rw [if_neg q, if_neg q]; exact Paired.snoc r ⟨rfl, hb, ry⟩
theorem KT.keeps {H H' : Hp} {kvs : List (List Key × V)} {xs : List (List Key × Addr × Value)} (r : KT H kvs xs) (ht : ∀ b ys, H b = some (.tup ys) → H' b = some (.tup ys)) : KT H' kvs xs :=
  Paired.mapP r fun _ _ z => ⟨z.1, ht _ _ z.2.1, z.2.2⟩

section
variable {P : Program} {w : World} {H : Hp} {h : Heap} {a : Addr}
theorem rd_of {u : HO} (ok : HOk P w H h) (e : Rd H a u) : ObjOk P w H h a u := e.ok ok
theorem dk_rd {kvs : List (Key × V)} (ok : HOk P w H h) (e : Rd H a (.dK kvs)) : kvs.length ≤ sizeLine ∧ (a == sysModules) = false ∧ ∃ vs, KV kvs vs ∧ h.DictOf (mixKind P w) a vs :=
  show ObjOk P w H h a (.dK kvs) from rd_of ok e
theorem dk_of {kvs : List (Key × V)} (ok : HOk P w H h) (e : H a = some (.dK kvs)) : kvs.length ≤ sizeLine ∧ (a == sysModules) = false ∧ ∃ vs, KV kvs vs ∧ h.DictOf (mixKind P w) a vs := dk_rd ok (.inl e)
/-- a tracked tuple of ints and texts is a key -/
theorem key_of {ks : List Key} (ok : HOk P w H h) (e : H a = some (.tup (ks.map kV))) : (tupleKind (mixKind P w)).is h ks a := by
  obtain ⟨_, its, r, o, h1, h2, n, h3⟩ := (show ObjOk P w H h a (.tup (ks.map kV)) from ok a _ e)
  exact ⟨o, its.toArray, n, h1, h2, h3, by simpa using items_are r⟩
theorem dt_rd {kvs : List (List Key × V)} (ok : HOk P w H h) (e : Rd H a (.dT kvs)) : kvs.length ≤ sizeLine ∧ (a == sysModules) = false ∧
    ∃ xs, KT H kvs xs ∧ h.DictOfH (tupleKind (mixKind P w)) a xs := by
  obtain ⟨z, y, xs, r, o, es, ep, h1, h2, h3, h4, h5⟩ := (show ObjOk P w H h a (.dT kvs) from rd_of ok e)
  refine ⟨z, y, xs, r, o, es, ep, h1, h2, h3, h4, fun x hx => ?_, h5⟩
  have all : ∀ {l : List (List Key × V)} {m : List (List Key × Addr × Value)}, KT H l m → ∀ x ∈ m, (tupleKind (mixKind P w)).is h x.1 x.2.1 := by
    intro l m q
    induction q with
    | nil => intro x hx; exact nomatch hx
    | @cons p q ps qs hq t ih =>
      intro x hx
      rcases List.mem_cons.mp hx with e | hx
      · subst e
        exact key_of ok (by rw [← hq.1]; exact hq.2.1)
      · exact ih x hx
  exact all r x hx
theorem dt_of {kvs : List (List Key × V)} (ok : HOk P w H h) (e : H a = some (.dT kvs)) : kvs.length ≤ sizeLine ∧ (a == sysModules) = false ∧
    ∃ xs, KT H kvs xs ∧ h.DictOfH (tupleKind (mixKind P w)) a xs := dt_rd ok (.inl e)
end

/-- what the dict at a holds at the key y -/
def DGet (H : Hp) (a : Addr) (y : V) (r : Option V) : Prop :=
  (∃ kvs k, Rd H a (.dK kvs) ∧ y = kV k ∧ r = valV kvs k) ∨ ∃ kvs k b, Rd H a (.dT kvs) ∧ y = .ref b ∧ H b = some (.tup (k.map kV)) ∧ r = valV kvs k
/-- the heap behind a[y] = v -/
def DPut (H : Hp) (a : Addr) (y v : V) (H' : Hp) : Prop :=
  (∃ kvs k, H a = some (.dK kvs) ∧ y = kV k ∧ kvs.length < sizeLine ∧ H' = upd H a (.dK (putK kvs k v))) ∨
  ∃ kvs k b, H a = some (.dT kvs) ∧ y = .ref b ∧ H b = some (.tup (k.map kV)) ∧ kvs.length < sizeLine ∧ H' = upd H a (.dT (putK kvs k v))
theorem DGet.k {H : Hp} {a : Addr} {kvs : List (Key × V)} {k : Key} (e : H a = some (.dK kvs)) : DGet H a (kV k) (valV kvs k) := .inl ⟨kvs, k, .inl e, rfl, rfl⟩
theorem DGet.t {H : Hp} {a b : Addr} {kvs : List (List Key × V)} {k : List Key} (e : H a = some (.dT kvs)) (eb : H b = some (.tup (k.map kV))) : DGet H a (.ref b) (valV kvs k) := .inr ⟨kvs, k, b, .inl e, rfl, eb, rfl⟩
theorem DPut.k {H : Hp} {a : Addr} {kvs : List (Key × V)} {k : Key} {v : V} (e : H a = some (.dK kvs)) (hl : kvs.length < sizeLine) : DPut H a (kV k) v (upd H a (.dK (putK kvs k v))) := .inl ⟨kvs, k, e, rfl, hl, rfl⟩
theorem DPut.t {H : Hp} {a b : Addr} {kvs : List (List Key × V)} {k : List Key} {v : V} (e : H a = some (.dT kvs)) (eb : H b = some (.tup (k.map kV))) (hl : kvs.length < sizeLine) :
    DPut H a (.ref b) v (upd H a (.dT (putK kvs k v))) := .inr ⟨kvs, k, b, e, rfl, eb, hl, rfl⟩


section
variable {X : Cx} {pins : List (Addr × Obj)} {σ : St} {H : Hp} {s : Shared} {a : Addr} {y v : V} {u r : Value} {o : Option V} {A : Around} {E : Value → Shared → Prop}

theorem Inv.big (I : Inv X pins σ H s) : sysModules < s.heap.objs.size := by
  have h : mainGlobals < s.heap.objs.size := (I.mod.glob.keeps I.bk).lt
  exact Nat.lt_trans (by decide) h

/-- a dict's object is replaced -/
theorem d_write {h' : Heap} {t' : Nat} {ob : HO} (I : Inv X pins σ H s) (mu : Mut (H a)) (hs : Heap.SameBut a s.heap h') (he : ∃ q, h'.get? a = some q) (new : ObjOk X.prog X.w (upd H a ob) h' a ob) :
    Inv X pins σ (upd H a ob) { s with heap := h', toks := t' } :=
  I.write (x := a) (e := a) mu (.inl rfl) (fun b q hb z => (hs.2 b hb).trans z) he new
theorem dk_new {P : Program} {w : World} {H' : Hp} {h' : Heap} {kvs : List (Key × V)} {vs : List (Key × Value)} (z : kvs.length ≤ sizeLine) (hd : (a == sysModules) = false) (rel : KV kvs vs) (dd : h'.DictOf (mixKind P w) a vs) :
    ObjOk P w H' h' a (.dK kvs) := ⟨z, hd, vs, rel, dd⟩
/-- d[y] = v -/
theorem d_setItem {H' : Hp} {Q : Unit → Shared → Prop} (hu : A.units + 1 < cLine) (I : Inv X pins σ H s) (g : DPut H a y v H') (ry : RelV y u) (rv : RelV v r) (h : ∀ s', Inv X pins σ H' s' → Q () s') :
    wpAny (model X.prog X.w) A (setItem (.ref a) u r) Q E s := by
  rcases g with ⟨kvs, k, e, ey, l, eH⟩ | ⟨kvs, k, b, e, ey, eb, l, eH⟩
  · subst ey eH
    obtain ⟨z, hd, vs, rel, dd⟩ := dk_of I.hok e
    have hz : vs.length ≤ sizeLine := by rw [← rel.length]; exact z
    have hl : (putK kvs k v).length ≤ sizeLine := by have := length_putK kvs k v; omega
    refine wpAny_setItem_pairs (hsz := hz) (kV_is ry) dd fun h' dd' hs => h _ ?_
    have he : ∃ q, h'.get? a = some q := let ⟨q, _, _, hq, _⟩ := dd'; ⟨q, hq⟩
    exact d_write I (by rw [e]; exact True.intro) hs he (dk_new hl hd (rel.put k rv) dd')
  · subst ey eH
    cases (show u = Value.ref b from ry)
    obtain ⟨z, hd, xs, rel, dd⟩ := dt_of I.hok e
    have hz : xs.length ≤ sizeLine := by rw [← Paired.length rel]; exact z
    have hl : (putK kvs k v).length ≤ sizeLine := by have := length_putK kvs k v; omega
    refine wpAny_setItem_heap (hsz := hz) (tupleKind_room_in1 hu) (key_of I.hok eb) dd fun h' dd' hs => h _ ?_
    obtain ⟨q, es, ep, hq, h2, h3, h4, _, h5⟩ := dd'
    refine d_write I (by rw [e]; exact True.intro) hs ⟨q, hq⟩ ⟨hl, hd, _, (rel.put k eb rv).keeps fun c ys ec => ?_, q, es, ep, hq, h2, h3, h4, h5⟩
    rw [upd_ne (ne_of ec e (fun z => nomatch z))]
    exact ec
end

section
variable {X : Cx} {pins : List (Addr × Obj)} {σ : St} {H : Hp} {s : Shared} {a : Addr} {kvs : List (Key × V)} {k : Key} {u : Value} {A : Around} {E : Value → Shared → Prop}
end


/-- d[y] -/
def tDGet (td ty : TE) : TE := fun σ H Q => td σ H fun x H1 => ty σ H1 fun y H2 => ∃ a v, x = .ref a ∧ DGet H2 a y (some v) ∧ Q v H2
/-- y in d, y not in d -/
def tDIn (ty td : TE) : TE := fun σ H Q => ty σ H fun y H1 => td σ H1 fun x H2 => ∃ a o, x = .ref a ∧ DGet H2 a y o ∧ Q (.bl o.isSome) H2
/-- d[y] = v -/
def sDPut (td ty tv : TE) : TS := fun D σ H => tv σ H fun v H1 => td σ H1 fun x H2 => ty σ H2 fun y H3 => ∃ a H4, x = .ref a ∧ DPut H3 a y v H4 ∧ D.nx σ H4
section
variable {X : Cx} {o i e value : Expr} {pos pos' tpos : Pos} {td ty tv : TE}
theorem ps_dput (hu : X.A.units + 1 < cLine) (ho : PE X o td) (hi : PE X i ty) (hv : PE X value tv) (hs : swapsWith value (some (.Subscript o i pos')) pos.line X.env = pure false) :
    PS X (.Assign [.Subscript o i pos'] value pos) (sDPut td ty tv) := by
  intro pins s σ H D I h
  refine wpAny_Assign_Subscript (thn (hv pins s σ H _ I h) fun r s1 ⟨v, H1, I1, rv, q1⟩ => thn (ho pins s1 σ H1 _ I1 q1) fun u s2 ⟨x, H2, I2, rx, q2⟩ => thn (hi pins s2 σ H2 _ I2 q2) fun iv s3 ⟨y, H3, I3, ry, a, H4, ex, g, q3⟩ => ?_) hs
  subst ex
  obtain rfl : u = Value.ref a := rx
  exact d_setItem hu I3 g ry rv fun s4 I4 => ⟨σ, H4, I4, q3⟩
end


/-! ### displays -/
theorem dk_empty {P : Program} {w : World} {H : Hp} (h : Heap) (hb : sysModules < h.objs.size) : ObjOk P w H (h.push { cls := .type "dict", data := .dict #[] }) h.objs.size (.dK []) :=
  ⟨Nat.zero_le _, beq_eq_false_iff_ne.mpr (Ne.symm (Nat.ne_of_lt hb)), [], .nil, Heap.DictOf.new h⟩
/-- {}, to be a dict of the kind that is wanted -/
def tDNewK : TE := fun _ H Q => ∀ p, H p = none → Q (.ref p) (upd H p (.dK []))
section
variable {X : Cx} {pos : Pos}
theorem pe_dnewK : PE X (.Dict [] [] pos) tDNewK := fun pins s σ H Q I h =>
  wpAny_Dict_empty ⟨.ref s.heap.objs.size, _, I.laid (a := s.heap.objs.size) (o := .dK []) (t' := s.toks) (fun _ _ q => Heap.get?_push_of_some _ q) (Nat.le_refl _) (dk_empty s.heap I.big), rfl, h _ (I.hok.fresh (Nat.le_refl _))⟩
end

/-! ### methods -/
/-- a method call o.m(e) of a built-in, with one argument: what must be seen of the text -/
structure M1 (X : Cx) (o : Expr) (m : Str) (apos : Pos) (e : Expr) (cpos : Pos) : Prop where
  base : attributeBase o m X.env (eval o X.env) = eval o X.env
  few : ((backTo cpos (starEach [e] X.env)).all (fun x => !x.1) && (backToKw cpos (keywordEach [] X.env)).all (fun x => x.1.isSome)
    && decide (([e] : List Expr).length + ([] : List Keyword).length + (if ([] : List Keyword).isEmpty then 0 else 1) < 30)) = true
  line : (apos.endLine == cpos.line) = true
  trees : backTo cpos (starEach [e] X.env) = [(false, eval e X.env)]
structure M2 (X : Cx) (o : Expr) (m : Str) (apos : Pos) (e f : Expr) (cpos : Pos) : Prop where
  base : attributeBase o m X.env (eval o X.env) = eval o X.env
  few : ((backTo cpos (starEach [e, f] X.env)).all (fun x => !x.1) && (backToKw cpos (keywordEach [] X.env)).all (fun x => x.1.isSome)
    && decide (([e, f] : List Expr).length + ([] : List Keyword).length + (if ([] : List Keyword).isEmpty then 0 else 1) < 30)) = true
  line : (apos.endLine == cpos.line) = true
  trees : backTo cpos (starEach [e, f] X.env) = [(false, eval e X.env), (false, eval f X.env)]

/-- a is a dict, whatever its keys -/
def IsD (H : Hp) (a : Addr) : Prop := (∃ kvs, Rd H a (.dK kvs)) ∨ ∃ kvs, Rd H a (.dT kvs)
theorem isD_at {X : Cx} {pins : List (Addr × Obj)} {σ : St} {H : Hp} {s : Shared} {a : Addr} (I : Inv X pins σ H s) (d : IsD H a) :
    s.TypeIs (.ref a) "dict" ∧ (∀ b, Value.ref a = .ref b → ∃ ob, s.heap.get? b = some ob ∧ ob.dict = none) ∧ (a == sysModules) = false := by
  rcases d with ⟨kvs, e⟩ | ⟨kvs, e⟩
  · obtain ⟨_, hd, vs, _, dd⟩ := dk_rd I.hok e
    refine ⟨dd.typeIs, fun b q => ?_, hd⟩
    cases q
    obtain ⟨ob, _, _, h1, h2, _⟩ := dd
    exact ⟨ob, h1, h2.2.1⟩
  · obtain ⟨_, hd, xs, _, dd⟩ := dt_rd I.hok e
    refine ⟨dd.typeIs, fun b q => ?_, hd⟩
    cases q
    obtain ⟨ob, _, _, h1, h2, _⟩ := dd
    exact ⟨ob, h1, h2.2.1⟩

section
variable {X : Cx} {pins : List (Addr × Obj)} {σ : St} {H : Hp} {s : Shared} {a : Addr} {y d : V} {u r : Value} {o : Option V} {A : Around} {E : Value → Shared → Prop}
/-- d.get(y, x) -/
theorem d_get2 {Q : Value → Shared → Prop} (hu : A.units + 1 < cLine) (I : Inv X pins σ H s) (g : DGet H a y o) (ry : RelV y u) (rd : RelV d r) (h : ∀ w' s', Inv X pins σ H s' → RelV (o.getD d) w' → Q w' s') :
    wpAny (model X.prog X.w) A (call (.builtin "dict.get") [.ref a, u, r]) Q E s := by
  rcases g with ⟨kvs, k, e, ey, l⟩ | ⟨kvs, k, b, e, ey, eb, l⟩
  · subst ey
    obtain ⟨z, hd, vs, rel, dd⟩ := dk_rd I.hok e
    refine call_meetsIn PySem.F.slot_dict_get dd.typeIs PySem.F.entry_dict_get (PySem.F.args_dict_get_3 _ _ _) (meets_dict_get_default (mixKind X.prog X.w) a (kV_is ry) hd r) ⟨_, dd.mapOf, h _ _ (I.tok _) ?_⟩
    rw [l]
    exact (rel.val k).getD rd
  · subst ey
    cases (show u = Value.ref b from ry)
    obtain ⟨z, hd, xs, rel, dd⟩ := dt_rd I.hok e
    refine call_meetsIn PySem.F.slot_dict_get dd.typeIs PySem.F.entry_dict_get (PySem.F.args_dict_get_3 _ _ _) (meetsH_dict_get_default (tupleKind (mixKind X.prog X.w)) a b hd r) ⟨tupleKind_room_in1 hu, k, xs, key_of I.hok eb, dd, h _ _ (I.tok _) ?_⟩
    rw [l]
    exact (rel.val k).getD rd
end

def tDGet2 (td ty tx : TE) : TE := fun σ H Q => td σ H fun x H1 => ∃ a, x = .ref a ∧ IsD H1 a ∧ ty σ H1 fun y H2 => tx σ H2 fun z H3 => ∃ o, DGet H3 a y o ∧ Q (o.getD z) H3
section
variable {X : Cx} {o e f : Expr} {apos cpos : Pos} {td ty tx : TE}
theorem pe_dget2 (hu : X.A.units + 1 < cLine) (ho : PE X o td) (he : PE X e ty) (hf : PE X f tx) (m : M2 X o "get" apos e f cpos) : PE X (.Call (.Attribute o "get" apos) [e, f] [] cpos) (tDGet2 td ty tx) := by
  intro pins s σ H Q I h
  refine wpAny_Call_method m.base m.few m.line PySem.F.plainAttrs_dict PySem.F.slot_dict_get PySem.F.type_dict_get (thn (ho pins s σ H _ I h) fun u s1 ⟨x, H1, I1, rx, a, ex, d, q1⟩ => ?_)
  subst ex
  obtain rfl : u = Value.ref a := rx
  obtain ⟨t1, t2, _⟩ := isD_at I1 d
  refine ⟨t1, t2, ?_⟩
  rw [m.trees]
  refine Calls.callWith_builtin rfl (Calls.evalArgs_plain (Calls.spliced_cons (thn (he pins s1 σ H1 _ I1 q1) fun iv s2 ⟨y, H2, I2, ry, q2⟩ =>
    Calls.spliced_cons (thn (hf pins s2 σ H2 _ I2 q2) fun fv s3 ⟨z, H3, I3, rz, ov, g, q3⟩ => Calls.spliced_nil ?_))))
  exact d_get2 hu I3 g ry rz fun w' s4 I4 rw' => ⟨_, H3, I4, rw', q3⟩
end

/-! ### dict(d): a copy -/
section
variable {X : Cx} {pins : List (Addr × Obj)} {σ : St} {H : Hp} {s : Shared} {a : Addr} {kvs : List (Key × V)} {A : Around} {E : Value → Shared → Prop}
end


section
variable {X : Cx} {pins : List (Addr × Obj)} {σ : St} {H : Hp} {s : Shared} {a : Addr} {y : V} {u : Value} {A : Around} {E : Value → Shared → Prop}
end
end L2

namespace Att
open PySem PySem.W PySem.Calls PyProof.Rows

/-! ### the script -/
theorem ints_of_wellAll {P : Params} {h : Heap} : ∀ (ns : List Int) (vs : List Value), WellAll P h vs (ns.map WData.int) → IntsAre vs ns := by
  intro ns
  induction ns with
  | nil =>
    intro vs w
    rw [List.map_nil] at w
    cases w
    exact .nil
  | cons n ns ih =>
    intro vs w
    rw [List.map_cons] at w
    cases w with
    | cons a b =>
      cases a
      exact .cons _ _ (ih _ b)

theorem script_of {l : OpenLaw} {n : Nat} (hn : l.most = some n) {P : Params} {h : Heap} {args : List WData} {vals : List Value}
    (hpre : l.row.toRowW.claim.pre args = true) (hwl : WellAll P h vals args) :
    ∃ a vs ns, vals = [Value.ref a] ∧ args = [WData.list (ns.map WData.int)] ∧ h.get? a = some { cls := .type "list", data := .seq vs.toArray } ∧ IntsAre vs ns ∧ ns.length ≤ n := by
  have hsh : WShape.hasAll [] args [.list .int] = true := (pre_splitW hpre).1
  have hc : l.pre.holds [] { args := args } = true := (pre_splitW hpre).2
  obtain ⟨d, r, rfl, h1, h2⟩ := hasAllW_cons hsh
  obtain rfl := hasAllW_nil h2
  obtain ⟨xs, rfl, h3⟩ := hasW_list h1
  obtain ⟨ns, rfl⟩ := items_int h3
  have hlen : ns.length ≤ n := by
    unfold OpenLaw.pre at hc
    have h4 : (WTm.not (.lt (.lit (.int (n : Int))) (.len (.arg 0)))).holds [] { args := [.list (ns.map .int)] } = true := by
      have h4 := (holds_andW hc).1
      rw [hn] at h4
      exact h4
    have h5 := condW_of h4 (w_not (w_lt w_lit (w_len_list (w_arg rfl))))
    rw [List.length_map] at h5
    refine Nat.le_of_not_lt fun q => ?_
    have q' : (n : Int) < ((ns.length : Nat) : Int) := by omega
    first
      | (rw [decide_eq_true q'] at h5; exact absurd h5 (by decide))
      | (simp at h5; omega)
  cases hwl with
  | cons w1 w2 =>
    cases w2
    cases w1 with
    | list ho hall => exact ⟨_, _, ns, rfl, rfl, ho, ints_of_wellAll ns _ hall, hlen⟩

theorem post_true (l : OpenLaw) (args : List WData) : l.row.toRowW.claim.post args (.bool true) args = true :=
  postW_of (r := l.row.toRowW) (X := (true == true))
    (show WShape.has [] (.bool true) .bool = true by first | rfl | decide | simp [WShape.has, WShape.arms, WShape.armsAll])
    (show (WTm.eq .res (.lit (.bool true))).value [] { args := args, res := some (.bool true), after := args } = some (.bool (true == true)) from w_eq_bool (w_res rfl) w_lit) rfl

/-- the same from a codeAny of the CALL (for a layer whose function contracts speak of calls) -/
theorem attach_call {l : OpenLaw} {n : Nat} {q : Program} {loose : List Str} {XP : (Str → Option Value) → Heap → Prop} {YP : World → Heap → Prop} {d : DefRec}
    (hn : l.most = some n) (hdf : d.params.defaults = [])
    (call : ∀ (w : World) (s₀ s₁ : Shared) (mg mb : Str → Option Value) (fa : Addr) (o : Obj) (pm cd doc : Value) (a : Addr) (vs : List Value) (ns : List Int),
      Ground q loose [] XP w s₀ mg mb s₁.heap → YP w s₁.heap →
      s₁.heap.get? fa = some o → o.data = .func (docDef d.name d.params d.body d.scope pm cd doc) → s₁.heap.CodeRec cd d.name → mg d.name = some (.ref fa) →
      s₁.heap.get? a = some { cls := .type "list", data := .seq vs.toArray } → IntsAre vs ns → ns.length ≤ n → s₁.gens = #[] →
      codeAny (model l.prog w) callerA (.call (.ref fa) ⟨[.ref a], []⟩) (fun r s' => r = .ok (.ret (.bool true)) ∧ OldK s₁.heap s'.heap ∧ s'.os = s₁.os ∧ AllBare s'.gens) s₁) :
    WalkO q loose XP YP l.row.toRowW d [] (fun f vs => PySem.call f vs) := by
  intro w s₀ s₁ mg mb G Y fa o pm cd doc dV kV ho hd hcd hD hmg hg args vals as hpre hlay hrd hwl hlo
  obtain rfl : dV = .none := Dflts.none hD hdf
  obtain rfl : kV = .none := Dflts.noKw hD
  obtain ⟨a, vs, ns, rfl, rfl, hobj, hints, hlen⟩ := script_of hn hpre hwl
  refine enter_call (codeAny_mono (call w s₀ s₁ mg mb fa o pm cd doc a vs ns G Y ho (fd_plain hd) hcd hmg hobj hints hlen hg) fun r s' hq => ?_)
  obtain ⟨rfl, h2, h3, h4⟩ := hq
  exact ⟨.inl ⟨.bool true, .bool true, [], rfl, fun _ => rfl, .bool true, post_true l _, fun _ => ⟨List.Pairwise.nil, fun _ hm => (nomatch hm)⟩⟩, h2, h3, h4⟩

/-! ### rules over ANY heap (no ledger) from facts about the written part K: the library's own take a ledger (News) for what they write -/
section
variable {prog : Program} {w : World} {A : Around} {E : Value → Shared → Prop} {s : Shared} {K : Frag}

end
end Att

namespace L2
open PySem PySem.Spec PyProof.Rows

theorem vals_ints : ∀ {vs : List Value} {ns : List Int}, IntsAre vs ns → Vals (ns.map V.int) vs
  | _, _, .nil => .nil
  | _, _, .cons n t h => .cons ⟨t, rfl⟩ (vals_ints h)

/-- nothing is tracked but the script, known to the object (or it is an object of the module) -/
def Only (H : Hp) : Prop := ∀ b, H b = none ∨ ∃ o xs, H b = some (.frz o (.lst xs))

/-- THE HEAD: the law's promise, at the heap behind the top. F, the promise of the law's def, may use that base is part of the heap (so K.In base, base.Ns mainGlobals mg stand in Mod) -/
theorem law_call {P : Program} {w : World} {K : PySem.W.Frag} {mg mb : Str → Option Value} {CX : CXT} {k : Nat} {fa a : Addr} {fd : FuncData} {x : Str} {sp : Sp} {s₁ : Shared} {vs : List Value} {ns : List Int}
    (KX : K.In s₁.heap) (hns : s₁.heap.Ns mainGlobals mg) (hb : s₁.heap.Ns builtinsNs mb) (hbb : ∀ x : Str, x ≠ "__name__" → mb x = bootBuiltins x) (hlim : s₁.heap.NoLimit) (hg : s₁.gens = #[])
    (ha : s₁.heap.get? a = some { cls := .type "list", data := .seq vs.toArray }) (hi : IntsAre vs ns) (hl : ns.length ≤ sizeLine) (hr : Room k callerA)
    (F : ∀ base : Heap, K.In base → base.Ns mainGlobals mg → FnOk P w K mg base CX k fa fd [x] sp) (hbind : ∀ (s : Shared) (u : Value), BindsTo s fd ⟨[u], []⟩ [(x, u)])
    (hsp : ∀ H : Hp, Only H → SqL K H a (ns.map V.int) → sp [.ref a] H (fun v _ => v = .bl true) fun _ _ _ => False)
    (hCX : ∀ H e s', CX [] H s₁ (fun _ _ _ => False) e s' → False) :
    codeAny (model P w) callerA (.call (.ref fa) ⟨[.ref a], []⟩) (fun r s' => r = .ok (.ret (.bool true)) ∧ OldK s₁.heap s'.heap ∧ s'.os = s₁.os ∧ AllBare s'.gens) s₁ := by
  have rv := vals_ints hi
  have lenV := hi.length
  -- from an abstract heap in which nothing but the script may be tracked
  have core : ∀ H : Hp, Only H → SqL K H a (ns.map V.int) → HOk P w H s₁.heap → (∀ b, H b ≠ none → b = a) → (H a ≠ none → K.lookup a = none) →
      codeAny (model P w) callerA (.call (.ref fa) ⟨[.ref a], []⟩) (fun r s' => r = .ok (.ret (.bool true)) ∧ OldK s₁.heap s'.heap ∧ s'.os = s₁.os ∧ AllBare s'.gens) s₁ := by
    intro H hO hS hok hA hK
    have base_of : ∀ {b : Addr} {o : Obj}, s₁.heap.get? b = some o → H b = none → (hidT s₁.heap H).get? b = some o := fun e n => hidT_get e n
    have noA : ∀ {b : Addr} {o : Obj} {es : Array DictEntry} {ep : Nat}, s₁.heap.get? b = some o → o.data = .dict es ep → H b = none := fun {b o es ep} e d => by
      cases q : H b with
      | none => rfl
      | some u =>
        have e' : b = a := hA b (by rw [q]; simp)
        subst e'
        rw [ha] at e; cases e
        have d' : Data.seq vs.toArray _ = Data.dict es ep := d
        cases d'
    have nsK : ∀ {b : Addr} {m : Str → Option Value}, s₁.heap.Ns b m → (hidT s₁.heap H).Ns b m := fun {b m} ⟨o, es, ep, e, d, r⟩ => ⟨o, es, ep, base_of e (noA e d), d, r⟩
    have hKb : K.In (hidT s₁.heap H) := fun b o e => base_of (KX b o e) (by
      cases q : H b with
      | none => rfl
      | some u =>
        have e' : b = a := hA b (by rw [q]; simp)
        subst e'
        rw [hK (by rw [q]; simp)] at e; cases e)
    have hM : Mod K mg (hidT s₁.heap H) := ⟨hKb, nsK hns, ⟨mb, nsK hb, hbb⟩, let ⟨mc, h1, h2⟩ := hlim; ⟨mc, nsK h1, h2⟩⟩
    have e0 : Env0 P w K mg (hidT s₁.heap H) callerA [] s₁ H := ⟨rfl, hM, fun b o e => of_hidT e, Nat.le_of_eq (hidT_size _ _), trivial, fun b hb => absurd (show b ∈ ([] : List Addr) from hb) (by simp), hok, .of_eq hg⟩
    refine codeAny_mono ((F _ hKb (nsK hns)).run callerA [] s₁ H ⟨[.ref a], []⟩ [.ref a] [.ref a] _ _ hr e0 (hbind s₁ (.ref a)) (.cons rfl .nil) (hsp H hO hS)) fun r s' h => ?_
    cases r with
    | error e => exact (hCX H e s' h).elim
    | ok fl =>
      cases fl with
      | next => exact False.elim h
      | brk => exact False.elim h
      | cont => exact False.elim h
      | ret u =>
        obtain ⟨v, H', os, bare, un, hok', r', q⟩ := h
        have q' : v = .bl true := q
        subst q'
        obtain rfl : u = Value.bool true := r'
        refine ⟨rfl, OldK.of_keep fun b o e => ?_, os, bare⟩
        cases q : H b with
        | none => exact un.keep b o e q (by intro z; exact absurd (show b ∈ ([] : List Addr) from z) (by simp)) (by simp)
        | some u =>
          rcases hO b with z | ⟨ob, xs, z⟩
          · rw [q] at z; cases z
          · have z2 := un.frzs b ob _ z
            obtain ⟨e1, _⟩ := hok b _ z
            obtain ⟨e2, _⟩ := hok' b _ z2
            rw [e] at e1; cases e1
            exact e2
  cases hk : K.lookup a with
  | some o =>
    -- the script is one of the module's own objects
    have e := KX a o hk
    rw [ha] at e
    cases e
    refine core (fun _ => none) (fun _ => .inl rfl) (.inr ⟨_, vs.toArray, _, hk, rfl, rfl, rfl, by rw [List.size_toArray, lenV]; exact hl, by simpa using rv⟩) (fun b u z => by have z' : (none : Option HO) = some u := z; cases z') (fun b z => absurd rfl z) fun z => absurd rfl z
  | none =>
    refine core (fun b => if b = a then some (.frz { cls := .type "list", data := .seq vs.toArray } (.lst (ns.map V.int))) else none) (fun b => ?_) (.inl (.inr ⟨{ cls := .type "list", data := .seq vs.toArray }, if_pos rfl⟩)) (fun b u z => ?_) (fun b z => ?_) fun _ => hk
    · by_cases hb : b = a
      · exact .inr ⟨_, _, if_pos hb⟩
      · exact .inl (if_neg hb)
    · by_cases hb : b = a
      · have z' := (if_pos hb).symm.trans z
        cases z'
        subst hb
        exact ⟨ha, by rw [List.length_map]; exact hl, vs, _, rv, ha⟩
      · have z' := (if_neg hb).symm.trans z
        cases z'
    · by_cases hb : b = a
      · exact hb
      · exact absurd (if_neg hb) z
end L2

namespace L2
open PySem PySem.Spec PyProof.Rows

abbrev KOf {K : PySem.W.Frag} {h : Heap} (_ : K.In h) : PySem.W.Frag := K

/-- the goal that k_head leaves (case hc), from the law's promise. F gives the function object fd (K's own) once, then the promise over every base -/
theorem walk_of {l : PySem.W.OpenLaw} {n k : Nat} {q : Program} {loose : List Str} {XP : (Str → Option Value) → Heap → Prop} {YP : World → Heap → Prop} {d : DefRec} {K : Params → PySem.W.Frag} {CX : World → CXT} {sp : World → Sp} {x : Str}
    (hn : l.most = some n) (hn2 : n ≤ sizeLine) (hdf : d.params.defaults = []) (hr : Room k callerA)
    (hY : ∀ (w : World) (h : Heap), YP w h → (K w.params).In h)
    (F : ∀ (w : World) (mg : Str → Option Value) (fa : Addr) (h : Heap), (K w.params).In h → h.Ns mainGlobals mg → mg d.name = some (.ref fa) →
      ∃ fd : FuncData, (∀ (s : Shared) (u : Value), BindsTo s fd ⟨[u], []⟩ [(x, u)]) ∧
        ∀ base : Heap, (K w.params).In base → base.Ns mainGlobals mg → FnOk l.prog w (K w.params) mg base (CX w) k fa fd [x] (sp w))
    (hsp : ∀ (w : World) (H : Hp) (a : Addr) (ns : List Int), ns.length ≤ n → Only H → SqL (K w.params) H a (ns.map V.int) → sp w [.ref a] H (fun v _ => v = .bl true) fun _ _ _ => False)
    (hCX : ∀ (w : World) (H : Hp) (s : Shared) (e : Value) (s' : Shared), CX w [] H s (fun _ _ _ => False) e s' → False) :
    PySem.W.WalkO q loose XP YP l.row.toRowW d [] (fun f vs => PySem.call f vs) := by
  refine Att.attach_call hn hdf fun w s₀ s₁ mg mb fa o pm cd doc a vs ns G Y ho hd hcd hmg hobj hints hlen hg => ?_
  have KX := hY w _ Y
  obtain ⟨fd, hb, hF⟩ := F w mg fa _ KX G.T.g hmg
  exact law_call KX G.T.g G.T.b G.T.builtins G.T.nolimit hg hobj hints (Nat.le_trans hlen hn2) hr hF hb (fun H hO hS => hsp w H a ns hlen hO hS) fun H e s' => hCX w H s₁ e s'
end L2


/-! SHORT WORDS over the layer: a def of the text, its body, what a loop and a test want. -/
namespace L2
open PySem PySem.Spec PyProof.Rows

def defArgs (s : Stmt) : Arguments := match s with
  | .FunctionDef _ a _ _ _ _ _ _ _ _ => a
  | _ => { posonlyargs := [], args := [], vararg := none, kwonlyargs := [], kw_defaults := [], kwarg := none, defaults := [] }
def defBody (s : Stmt) : List Stmt := match s with
  | .FunctionDef _ _ b _ _ _ _ _ _ _ => b
  | _ => []
def defScope (s : Stmt) : Scope := match s with
  | .FunctionDef _ _ _ _ _ _ sc _ _ _ => sc
  | _ => { kind := .function, names := [], isGenerator := false, isCoroutine := false }

/-! ### no exception leaves a def -/
abbrev CX0 : CXT := fun _ _ _ _ _ _ => False
abbrev E0 : XK := fun _ _ _ => False
theorem pass0 {X : Cx} : Passes CX0 X E0 := fun _ _ _ _ _ _ _ h => h.elim

/-! ### a def (or method) of the text as it stands behind the top -/
structure Fun (K : PySem.W.Frag) (x qual : Str) (st : Stmt) (f : Addr) (fd : FuncData) : Prop where
  ex : ∃ (oc : Value) (od : Option Addr) (kV doc pm : Value) (an : Option Addr) (cdv ct : Value) (osl : Array (Option Value)),
    fd = PySem.W.fnOf x qual (defArgs st) (defBody st) (defScope st) .none kV doc pm an cdv ct ∧ K.lookup f = some ⟨oc, od, .func fd, osl⟩ ∧ PySem.W.codeIn K cdv qual = true
  kp : PySem.W.keepIn K (.ref f) = true
section
variable {P : Program} {w : World} {K : PySem.W.Frag} {mg : Str → Option Value} {base : Heap}
/-- THE RULE for a def: its body as a term of rules, and the reading of that term -/
theorem Fun.ok {x qual : Str} {st : Stmt} {f : Addr} {fd : FuncData} {N ps : List Str} {k : Nat} {sp : Sp} (F : Fun K x qual st f fd) (S : FnScope N ps (defScope st)) (len : ∀ vs H Q E, sp vs H Q E → vs.length = ps.length)
    (hbody : ∀ (cdv : Value) (A : Around) (outer : List Env) (s : Shared) (H : Hp) (vs : List V) (Q : VK) (E : XK), Room k (A.deeper (envOfC qual (defScope st) s.heap.objs.size f cdv)) → sp vs H Q E →
      ∃ t, PSs (cxOf CX0 P w K mg base N qual (defScope st) f cdv A outer s H E).nox (defBody st) t ∧ t { nx := fun _ H' => Q .non H', rt := Q } (start N vs) H) : FnOk P w K mg base CX0 (k + 1) f fd ps sp := by
  obtain ⟨oc, od, kV, doc, pm, an, cdv, ct, osl, rfl, lk, hcd⟩ := F.ex
  refine fn_of lk hcd S len fun A outer s H vs Q E hr hsp => ?_
  obtain ⟨t, h, q⟩ := hbody cdv A outer s H vs Q E hr hsp
  exact ⟨t, h.nox, q⟩
/-- how its arguments bind (no defaults): h is «fun _ _ _ _ _ _ us hl => match us, hl with | [_, _], _ => rfl», one _ a parameter -/
theorem Fun.binds {x qual : Str} {st : Stmt} {f : Addr} {fd : FuncData} {ps : List Str} (F : Fun K x qual st f fd)
    (h : ∀ (kV doc pm : Value) (an : Option Addr) (cdv ct : Value) (us : List Value), us.length = ps.length → bindArgs (PySem.W.fnOf x qual (defArgs st) (defBody st) (defScope st) .none kV doc pm an cdv ct) ⟨us, []⟩ = pure (ps.zip us)) : Binds K fd ps [] := by
  obtain ⟨oc, od, kV, doc, pm, an, cdv, ct, osl, rfl, lk, hcd⟩ := F.ex
  exact .all (h kV doc pm an cdv ct)
theorem fun_mk {x qual : Str} {st : Stmt} {f : Addr} {oc : Value} {od an : Option Addr} {osl : Array (Option Value)} {kV doc pm cdv ct : Value} (l : K.lookup f = some ⟨oc, od, .func (PySem.W.fnOf x qual (defArgs st) (defBody st) (defScope st) .none kV doc pm an cdv ct), osl⟩)
    (c : PySem.W.codeIn K cdv qual = true) (k : PySem.W.keepIn K (.ref f) = true) : Fun K x qual st f (PySem.W.fnOf x qual (defArgs st) (defBody st) (defScope st) .none kV doc pm an cdv ct) := ⟨⟨oc, od, kV, doc, pm, an, cdv, ct, osl, rfl, l, c⟩, k⟩
end
theorem hu_of {A : Around} {k : Nat} (hr : Room k A) : A.units + 1 < cLine := Nat.lt_of_le_of_lt (Nat.add_le_add_left (by decide : 1 ≤ 64) _) hr.units
theorem small1000 {n : Nat} (h : n ≤ 1000) : n < sizeLine := Nat.lt_of_le_of_lt h (by decide)

/-! ### expressions in short: the name that stands in the i-th slot -/
section
variable {X : Cx}
theorem pv (i : Nat) {x : Str} {pos : Pos} (hN : X.N[i]? = some x := by rfl) (hv : Vis X.env.scope x := by first | exact Or.inl rfl | exact Or.inr (Or.inl rfl) | exact Or.inr (Or.inr rfl)) (hd : (x == ("__debug__" : Str)) = false := by decide)
    (hcd : (x == ("__classdict__" : Str)) = false := by decide) : PE X (.Name x pos) (tVar i) := pe_var hN hv hd hcd
end

theorem iteT {A B : Prop} (h : A) : if true = true then A else B := by
  rw [if_pos rfl]
  exact h
/-! ### heaps -/
/-- all that was tracked is as it was -/
def Same (H H' : Hp) : Prop := ∀ b o, H b = some o → H' b = some o
theorem Same.refl (H : Hp) : Same H H := fun _ _ h => h
theorem Same.trans {H H1 H2 : Hp} (a : Same H H1) (b : Same H1 H2) : Same H H2 := fun c o h => b c o (a c o h)
theorem Same.free {H H' : Hp} (e : Same H H') {l : Addr} (h : H' l = Option.none) : H l = Option.none := by
  cases q : H l with
  | none => rfl
  | some o =>
    rw [e l o q] at h
    cases h
theorem Same.seq {K : PySem.W.Frag} {H H' : Hp} {a : Addr} {xs : List V} (e : Same H H') (h : SqL K H a xs) : SqL K H' a xs := by
  rcases h with (h | ⟨o, h⟩) | h
  · exact .inl (.inl (e _ _ h))
  · exact .inl (.inr ⟨o, e _ _ h⟩)
  · exact .inr h

end L2

namespace L2
open PySem PySem.Spec PyProof.Rows
section
variable {X : Cx}
end
/-! ### a dict's pairs: keys that differ -/
section
variable {κ : Type} [DecidableEq κ]
end
end L2

/-! Own rules over the hand layer, 1: a list comprehension of one clause, none or one test -/
namespace L2
open PySem PySem.Spec PyProof.Rows

/-- an object that stands untracked is taken up -/
theorem HOk.adopt {P : Program} {w : World} {H : Hp} {h : Heap} {a : Addr} {o : HO} (x : HOk P w H h) (hn : H a = none)
    (new : ObjOk P w (upd H a o) h a o) : HOk P w (upd H a o) h := by
  intro b u e
  by_cases hb : b = a
  · subst hb
    rw [upd_same] at e
    cases e
    exact new
  · rw [upd_ne hb] at e
    refine (x b u e).stay (fun c v _ q => q) (fun c q => ?_) (fun c xs q => ?_)
    · rw [upd_ne (ne_of_none q hn)]
      exact q
    · rw [upd_ne (ne_of_none q hn)]
      exact q

/-- what a comprehension's scope catches of the cells -/
def closL (cells : List (Str × Addr)) : List (Str × NameKind) → List (Str × Addr) → List (Str × Addr)
  | [], acc => acc
  | (n, k) :: r, acc => if k = .free then (match cells.lookup n with
    | some c => closL cells r ((n, c) :: acc)
    | none => closL cells r acc) else closL cells r acc
theorem closL_sub (cells : List (Str × Addr)) : ∀ (names : List (Str × NameKind)) (acc : List (Str × Addr)), (∀ x c, acc.lookup x = some c → cells.lookup x = some c) →
    ∀ x c, (closL cells names acc).lookup x = some c → cells.lookup x = some c
  | [], acc, h => h
  | (n, k) :: r, acc, h => by
    intro x c e
    unfold closL at e
    split at e
    · split at e
      · rename_i c' hc'
        refine closL_sub cells r ((n, c') :: acc) (fun y d q => ?_) x c e
        rw [List.lookup_cons] at q
        split at q
        · rename_i hy
          have hy' : y = n := by simpa using hy
          subst hy'
          cases q
          exact hc'
        · exact h y d q
      · exact closL_sub cells r acc h x c e
    · exact closL_sub cells r acc h x c e
theorem closL_has (cells : List (Str × Addr)) : ∀ (names : List (Str × NameKind)) (acc : List (Str × Addr)) (x : Str),
    ((acc.lookup x).isSome = true ∨ ((x, NameKind.free) ∈ names ∧ (cells.lookup x).isSome = true)) → ((closL cells names acc).lookup x).isSome = true
  | [], acc, x, h => by
    rcases h with h | h
    · exact h
    · exact absurd h.1 (by simp)
  | (n, k) :: r, acc, x, h => by
    have kept : ∀ c, (acc.lookup x).isSome = true → ((((n, c) :: acc : List (Str × Addr))).lookup x).isSome = true := fun c q => by
      rw [List.lookup_cons]
      split
      · rfl
      · exact q
    unfold closL
    split
    · split
      · rename_i c' hc'
        refine closL_has cells r _ x ?_
        rcases h with h | ⟨h1, h2⟩
        · exact .inl (kept _ h)
        · rcases List.mem_cons.mp h1 with z | z
          · cases z
            refine .inl ?_
            rw [List.lookup_cons]
            simp
          · exact .inr ⟨z, h2⟩
      · rename_i hc'
        refine closL_has cells r _ x ?_
        rcases h with h | ⟨h1, h2⟩
        · exact .inl h
        · rcases List.mem_cons.mp h1 with z | z
          · cases z
            rw [hc'] at h2
            cases h2
          · exact .inr ⟨z, h2⟩
    · rename_i hk
      refine closL_has cells r _ x ?_
      rcases h with h | ⟨h1, h2⟩
      · exact .inl h
      · rcases List.mem_cons.mp h1 with z | z
        · cases z
          exact absurd rfl hk
        · exact .inr ⟨z, h2⟩
theorem closure_run (env : Env) : ∀ (names : List (Str × NameKind)) (acc : List (Str × Addr)), (∀ y ∈ names, y.2 = .free → ∃ c, env.cells.lookup y.1 = some c) →
    (forIn names acc fun (x : Str × NameKind) cs => (match x with
      | (name, kind) => if (kind == .free) = true then (do let y ← cellOf env name; pure (ForInStep.yield ((name, y) :: cs))) else pure (ForInStep.yield cs) : Sem (ForInStep (List (Str × Addr))))) = (pure (closL env.cells names acc) : Sem _)
  | [], acc, _ => rfl
  | (n, k) :: r, acc, h => by
    have hr : ∀ y ∈ r, y.2 = .free → ∃ c, env.cells.lookup y.1 = some c := fun y hy => h y (List.mem_cons_of_mem _ hy)
    rw [List.forIn_cons]
    unfold closL
    by_cases hk : k = .free
    · subst hk
      obtain ⟨c, hc⟩ := h (n, .free) List.mem_cons_self rfl
      have hc' : env.cells.lookup n = some c := hc
      rw [if_pos rfl, hc']
      have e1 : cellOf env n = pure c := by
        unfold cellOf
        rw [hc']
      simp only [beq_self_eq_true, if_true]
      rw [e1, pure_bind, pure_bind]
      exact closure_run env r _ hr
    · have hk' : (k == NameKind.free) = false := by simpa using hk
      rw [if_neg hk]
      simp only [hk', Bool.false_eq_true, if_false]
      rw [pure_bind]
      exact closure_run env r _ hr
theorem closureFor_run {scope : Scope} {env : Env} (h : ∀ y ∈ scope.names, y.2 = .free → ∃ c, env.cells.lookup y.1 = some c) :
    closureFor scope env = pure (closL env.cells scope.names []) := by
  have e := closure_run env scope.names [] h
  unfold closureFor
  first
    | exact e
    | (simp only [bind_pure]; exact e)
    | (rw [e]; rfl)

/-- names and kinds of a comprehension's block, held against the def around it -/
def capsOk (N N' : List Str) (cap : List (Option Nat)) (names : List (Str × NameKind)) : Bool :=
  decide (cap.length = N'.length) && (N'.zip cap).all fun p => match p.2 with
    | none => true
    | some j => decide (N[j]? = some p.1) && decide (names.lookup p.1 = some .free)
def scopeOk (sc sc' : Scope) : Bool :=
  decide (sc.kind = .function) && sc.names.all fun p => match p.2 with
    | .local => decide (sc.names.lookup p.1 = some .local)
    | .free => decide (sc'.names.lookup p.1 = some .cell)
    | .cell => false
    | _ => true
def capV (cap : List (Option Nat)) (σ : St) : St := cap.map fun o => o.bind fun j => (σ[j]?).join
def compCx (X : Cx) (N' : List Str) (scope : Scope) (cl : List (Str × Addr)) (C : Addr) (ex : List Addr) (s : Shared) (H : Hp) : Cx where
  prog := X.prog
  w := X.w
  K := X.K
  mg := X.mg
  base := X.base
  A := X.A
  N := N'
  s₀ := s
  H₀ := H
  env := compEnvC scope cl C X.env
  outer := X.stack
  stack := X.stack
  ex := ex
  fn := fun _ => false
  calm := X.calm
  pn := []
  xe := fun _ _ => False
/-- the tests of the clause -/
def PF (X : Cx) (ifs : List Expr) (t : TT) : Prop :=
  ∀ (pins : List (Addr × Obj)) (s : Shared) (σ : St) (H : Hp) (Q : Bool → Hp → Prop), Inv X pins σ H s → t σ H Q →
    wpAny (model X.prog X.w) X.A (forIn ifs true fun c r => if r = true then do let ok ← isTrue c X.env (eval c X.env); pure (ForInStep.yield ok) else pure (ForInStep.yield r)) (TP X pins σ Q) X.xe s
def tAll : TT := fun _ H Q => Q true H
theorem pf_nil {X : Cx} : PF X [] tAll := fun _ _ _ H _ I h => wpAny_tests_nil ⟨H, I, h⟩
/-- W: by the turn, a measure, what has been put together so far -/
def CompW (J : It) (g : TG) (tt : TT) (te : TE) (Q : VK) (W : Nat → Nat → List V → St → Hp → Prop) : Prop := ∀ i m acc σ H, W i m acc σ H →
  (J.stop i H ∧ ∀ D, H D = none → Q (.ref D) (upd H D (.lst acc))) ∨
  (J.go i H ∧ acc.length < sizeLine ∧ ∀ x H', J.yld i H x H' → g x σ H' fun σ2 H2 => tt σ2 H2 fun b H3 =>
    if b = true then te σ2 H3 fun y H4 => ∃ m', m' < m ∧ W (i + 1) m' (acc ++ [y]) σ2 H4 else ∃ m', m' < m ∧ W (i + 1) m' acc σ2 H3)
def tComp (wi : TI) (cap : List (Option Nat)) (g : TG) (tt : TT) (te : TE) : TE := fun σ H Q => wi σ H fun J H1 =>
  ∃ W : Nat → Nat → List V → St → Hp → Prop, (∃ m, W 0 m [] (capV cap σ) H1) ∧ CompW J g tt te Q W

theorem relabel_mem {scope : Scope} {env : Env} {x : Str} {k : NameKind} (h : (relabel scope env).names.lookup x = some k) :
    ∃ k', (x, k') ∈ scope.names ∧ (k = k' ∨ (k' = .free ∧ k = .cell)) := by
  have m := PySem.mem_of_lookup h
  obtain ⟨⟨n, k'⟩, hm, e⟩ := List.mem_map.mp m
  dsimp only at e
  split at e
  · rename_i hc
    have e1 : n = x := (Prod.mk.inj e).1
    have e2 : NameKind.cell = k := (Prod.mk.inj e).2
    subst e1
    subst e2
    refine ⟨k', hm, .inr ⟨?_, rfl⟩⟩
    simp only [Bool.and_eq_true, beq_iff_eq] at hc
    exact hc.1.1
  · have e1 : n = x := (Prod.mk.inj e).1
    have e2 : k' = k := (Prod.mk.inj e).2
    subst e1
    subst e2
    exact ⟨k', hm, .inl rfl⟩

section
variable {prog : Program} {w : World} {A : Around} {R : Result → Shared → Prop} {s : Shared}
/-- the loop of the block, any target -/
theorem comp_loop {elt target iter : Expr} {ifs : List Expr} {scope : Scope} {pos : Pos} {it acc : Value} {env : Env} (I : Nat → Shared → Prop)
    (turn : ∀ n s, I n s → wpAny (model prog w) A (pyNext it) (fun r s1 => match r with
      | none => R (.ok .next) s1
      | some v => wpAny (model prog w) A (letOwnedTupleGo target it v) (fun _ s2 => wpAny (model prog w) A (assign target env v) (fun _ s3 =>
          wpAny (model prog w) A (forIn ifs true fun c r => if r = true then do let ok ← isTrue c env (eval c env); pure (ForInStep.yield ok) else pure (ForInStep.yield r)) (fun ok s4 =>
            if ok = true then wpAny (model prog w) A (eval elt env) (fun x s5 =>
              wpAny (model prog w) A (call (.builtin "list.append") [acc, x]) (fun _ s6 => ∃ m, m < n ∧ I m s6) (fun _ _ => False) s5) (fun _ _ => False) s4
            else ∃ m, m < n ∧ I m s4) (fun _ _ => False) s3) (fun _ _ => False) s2) (fun _ _ => False) s1) (fun _ _ => False) s)
    (n : Nat) (h : I n s) :
    codeAny (model prog w) A (.compLoop (.ListComp elt [⟨target, iter, ifs, 0⟩] scope pos) 0 it acc env) R s := by
  have no : ∀ {E : Value → Shared → Prop} (a : Value) (b : Shared), (fun _ _ => False : Value → Shared → Prop) a b → E a b := fun _ _ f => False.elim f
  refine codeAny_loop rfl I (fun n s hI => ?_) n h
  show wpAny _ A ((compTurn (.ListComp elt [⟨target, iter, ifs, 0⟩] scope pos) 0 it acc env).onRaise _) _ _ s
  refine wpAny_noted ?_
  rw [compTurn_list]
  refine wpAny_bind (wpAny_standAt (wpAny_bind (wpAny_mono (turn n s hI) (fun r s1 h1 => ?_) no)))
  cases r with
  | none => exact wpAny_pure h1
  | some v =>
    refine wpAny_bind (wpAny_mono h1 (fun _ s2 h2 => ?_) no)
    refine wpAny_bind (wpAny_mono h2 (fun _ s3 h3 => ?_) no)
    refine wpAny_bind (wpAny_mono h3 (fun ok s4 h4 => ?_) no)
    cases ok with
    | false => exact wpAny_pure ⟨rfl, h4⟩
    | true =>
      refine wpAny_bind (wpAny_bind (wpAny_mono h4 (fun x s5 h5 => ?_) no))
      exact wpAny_bind (wpAny_mono h5 (fun _ s6 h6 => wpAny_pure (wpAny_pure ⟨rfl, h6⟩)) no)
end

section
variable {X : Cx} {target iter elt : Expr} {ifs : List Expr} {scope : Scope} {pos : Pos} {N' : List Str} {cap : List (Option Nat)} {wi : TI} {g : TG} {tt : TT} {te : TE}

theorem capsOk_at {N : List Str} {names : List (Str × NameKind)} (h : capsOk N N' cap names = true) : cap.length = N'.length ∧
    ∀ (i j : Nat) (x : Str), cap[i]? = some (some j) → N'[i]? = some x → N[j]? = some x ∧ names.lookup x = some .free := by
  unfold capsOk at h
  rw [Bool.and_eq_true] at h
  refine ⟨of_decide_eq_true h.1, fun i j x h1 h2 => ?_⟩
  have hm : (x, some j) ∈ N'.zip cap := by
    have : (N'.zip cap)[i]? = some (x, some j) := by rw [List.getElem?_zip_eq_some]; exact ⟨h2, h1⟩
    exact List.mem_of_getElem? this
  have q := List.all_eq_true.mp h.2 _ hm
  dsimp only at q
  rw [Bool.and_eq_true] at q
  exact ⟨of_decide_eq_true q.1, of_decide_eq_true q.2⟩

/-- what is true of the block's context at its start -/
theorem comp_start {pins : List (Addr × Obj)} {σ : St} {H : Hp} {s : Shared} {fp : List Addr} {h4 : Heap} {m4 : Str → Option Value} {D C : Addr} {s3 : Shared} {t4 : Nat}
    (hs : scopeOk scope X.env.scope = true) (hcap : capsOk X.N N' cap scope.names = true)
    (I : Inv X pins σ H s) (hD : @Eq Nat D s.heap.objs.size) (I3 : Inv X pins σ H s3) (hC : @Eq Nat C s3.heap.objs.size) (hDC : @LT.lt Nat _ D C) (hfp : ∀ b ∈ fp, FpOk X pins H b) (hin : ∀ b ∈ fp, @LT.lt Nat _ b D)
    (hns : h4.Ns C m4) (kp : ∀ b o, s3.heap.get? b = some o → h4.get? b = some o) :
    Inv (compCx X N' scope (closL X.env.cells scope.names []) C (D :: fp) s3 H) [] (capV cap σ) H { s3 with heap := h4, toks := t4 } := by
  unfold scopeOk at hs
  rw [Bool.and_eq_true] at hs
  obtain ⟨hk0, hn0⟩ := hs
  have hkind : scope.kind = .function := of_decide_eq_true hk0
  have hn1 := List.all_eq_true.mp hn0
  have nocell : ∀ y ∈ scope.names, y.2 ≠ .cell := fun y hy e => by
    have q := hn1 y hy
    rw [e] at q
    cases q
  have locs : ∀ y ∈ scope.names, y.2 = .local → scope.names.lookup y.1 = some .local := fun y hy e => by
    have q := hn1 y hy
    rw [e] at q
    exact of_decide_eq_true q
  have frees : ∀ y ∈ scope.names, y.2 = .free → X.env.scope.names.lookup y.1 = some .cell := fun y hy e => by
    have q := hn1 y hy
    rw [e] at q
    exact of_decide_eq_true q
  have sub : ∀ x c, (closL X.env.cells scope.names []).lookup x = some c → X.env.cells.lookup x = some c :=
    closL_sub X.env.cells scope.names [] (fun x c e => by simp at e)
  obtain ⟨hlen, hcaps⟩ := capsOk_at hcap
  have freeHas : ∀ x, (x, NameKind.free) ∈ scope.names → ∃ c, (closL X.env.cells scope.names []).lookup x = some c := fun x hx => by
    obtain ⟨c, hc⟩ := I.ok.has x (.inl (frees _ hx rfl))
    exact Option.isSome_iff_exists.mp (closL_has X.env.cells scope.names [] x (.inr ⟨hx, by rw [hc]; rfl⟩))
  have cne : ∀ x c, X.env.cells.lookup x = some c → c ≠ D := fun x c e z => by
    obtain ⟨v, q⟩ := I.cell x c e
    have h1 : @LT.lt Nat _ c s.heap.objs.size := q.lt
    have h2 : @Eq Nat c D := z
    omega
  refine ⟨⟨I3.ok.mod, hkind, I3.ok.glob, I3.ok.blt, ?_, fun x y c h1 h2 => I3.ok.inj x y c (sub x c h1) (sub y c h2), ?_, ?_, I3.ok.hd, I3.ok.frames, .inl rfl, ?_, I3.bs, Nat.le_trans I3.ok.bsz I3.sz, ?_, ?_, I3.stack, I3.stkFree⟩,
    rfl, I3.bare, Un.kept kp, ⟨m4, hns, ?_⟩, ?_, ?_, ?_, ?_, I3.hok.kept kp, ?_⟩
  · show @LE.le Nat _ s3.heap.objs.size C
    omega
  · intro x hx
    have hx' : (relabel scope X.env).names.lookup x = some .cell ∨ (relabel scope X.env).names.lookup x = some .free := hx
    have : ∃ k, (relabel scope X.env).names.lookup x = some k ∧ (k = .cell ∨ k = .free) := by
      rcases hx' with z | z
      · exact ⟨_, z, .inl rfl⟩
      · exact ⟨_, z, .inr rfl⟩
    obtain ⟨k, e, hk⟩ := this
    obtain ⟨k', hm, hkk⟩ := relabel_mem e
    have hf : k' = .free := by
      rcases hkk with z | z
      · subst z
        rcases hk with z | z
        · exact absurd z (nocell _ hm)
        · exact z
      · exact z.1
    subst hf
    exact freeHas x hm
  · intro x c hf
    exact absurd hf (by show ¬ (false = true); decide)
  · intro b hb
    rcases List.mem_cons.mp hb with z | z
    · subst z
      exact ⟨Nat.ne_of_lt hDC, fun x c e => cne x c (sub x c e)⟩
    · have hbD := hin b z
      exact ⟨fun y => by have y' : @Eq Nat b C := y; omega, fun x c e => (hfp b z).2.2.2.2.1 x c (sub x c e)⟩
  · intro b o e hb
    rcases List.mem_cons.mp hb with z | z
    · subst z
      have h1 : @LT.lt Nat _ b s.heap.objs.size := Heap.lt_size (I.bk _ _ e)
      omega
    · rcases (hfp b z).2.2.2.1 with q | q
      · exact I.ok.noex b o e q
      · have h1 : @LT.lt Nat _ b X.s₀.heap.objs.size := Heap.lt_size (I.ok.bs b o e).1
        have h2 : @LE.le Nat _ X.s₀.heap.objs.size b := q
        omega
  · intro b hb hf
    have hf' : b ∈ frs X.stack := hf
    rcases List.mem_cons.mp hb with z | z
    · subst z
      rcases List.mem_cons.mp (I.stkSub _ hf') with q | q
      · have h1 : @LT.lt Nat _ X.env.locals s.heap.objs.size := I.lt
        have h2 : @Eq Nat b X.env.locals := q
        omega
      · exact I.nofs (Nat.le_of_eq hD.symm) q
    · rcases List.mem_cons.mp (I.stkSub _ hf') with q | q
      · exact (hfp b z).2.1 q
      · exact (hfp b z).2.2.1 q
  · intro i x v h1 h2 h3
    have h2' : (cap.map fun o => o.bind fun j => (σ[j]?).join)[i]? = some (some v) := h2
    rw [List.getElem?_map] at h2'
    cases hc : cap[i]? with
    | none => rw [hc] at h2'; cases h2'
    | some o =>
      rw [hc] at h2'
      have h2'' : (o.bind fun j => (σ[j]?).join) = some v := Option.some.inj h2'
      cases o with
      | none => cases h2''
      | some j =>
        have hj : (σ[j]?).join = some v := h2''
        have hσ : σ[j]? = some (some v) := by
          cases hq : σ[j]? with
          | none => rw [hq] at hj; cases hj
          | some o => rw [hq] at hj; cases o with
            | none => cases hj
            | some v' => cases hj; rfl
        obtain ⟨hN, hfr⟩ := hcaps i j x hc h1
        have hm := PySem.mem_of_lookup hfr
        have hcell := frees _ hm rfl
        obtain ⟨m, hn, hl⟩ := I3.loc
        obtain ⟨u, ru, lk⟩ := hl j x v hN hσ (.inr (.inl hcell))
        refine ⟨u, ru, .inr ?_⟩
        rcases lk with ⟨z, _⟩ | ⟨_, c, e, q⟩
        · have z' : X.env.scope.names.lookup x = some .local := z
          rw [hcell] at z'
          cases z'
        · obtain ⟨c', hc'⟩ := freeHas x hm
          have e2 := sub x c' hc'
          rw [e] at e2
          cases e2
          refine ⟨?_, c, hc', ?_⟩
          · have h3' : (relabel scope X.env).names.lookup x = some .local ∨ (relabel scope X.env).names.lookup x = some .cell ∨ (relabel scope X.env).names.lookup x = some .free := h3
            rcases h3' with z | z | z
            · obtain ⟨k', hm', hk'⟩ := relabel_mem z
              rcases hk' with y | y
              · subst y
                have y' := locs _ hm' rfl
                rw [show scope.names.lookup (x, NameKind.local).1 = some NameKind.free from hfr] at y'
                cases y'
              · cases y.2
            · exact .inl z
            · exact .inr z
          · obtain ⟨o, ho, hd⟩ := q
            exact ⟨o, kp _ _ ho, hd⟩
  · intro x c e
    obtain ⟨v, o, ho, hd⟩ := I3.cell x c (sub x c e)
    exact ⟨v, o, kp _ _ ho, hd⟩
  · show H C = none
    exact I3.hok.fresh (Nat.le_of_eq hC.symm)
  · intro x c e
    exact I3.freeC x c (sub x c e)
  · intro p hp
    exact absurd hp (by show ¬ p ∈ ([] : List (Addr × Obj)) ++ []; simp)
  · show (cap.map _).length = N'.length
    rw [List.length_map]
    exact hlen
end
end L2

/-! Own rules over the hand layer, 2: the comprehension itself -/
namespace L2
open PySem PySem.Spec PyProof.Rows
section
variable {X : Cx} {target iter elt : Expr} {ifs : List Expr} {scope : Scope} {pos : Pos} {N' : List Str} {cap : List (Option Nat)} {wi : TI} {g : TG} {tt : TT} {te : TE}

/-- what the block leaves: the list that it made, taken up -/
def CompEnd (X : Cx) (pins : List (Addr × Obj)) (σ : St) (Q : VK) (D C : Addr) (s' : Shared) : Prop :=
  ∃ m H', s'.heap.Ns C m ∧ Inv X pins σ H' s' ∧ FpOk X pins H' C ∧ Q (.ref D) H'
/-- .. and the block's own names may go -/
theorem CompEnd.go {pins : List (Addr × Obj)} {σ : St} {H : Hp} {C : Addr} {s' : Shared} {h' : Heap} (I : Inv X pins σ H s') (f : FpOk X pins H C) (hb : Heap.SameBut C s'.heap h') : Inv X pins σ H { s' with heap := h' } :=
  I.turned (t' := s'.toks) (it := C) (fun b o hn e => (hb.2 b hn).trans e) f.1 f.2.1 f.2.2.2.1 f.2.2.2.2.1 f.2.2.2.2.2

/-- the block, from the iterator on -/
theorem comp_block {pins : List (Addr × Obj)} {σ : St} {s2 : Shared} {H2 : Hp} {Q : VK} {it : Addr} {fp : List Addr} {tn : Nat → Heap → Prop} {J : It} {W : Nat → Nat → List V → St → Hp → Prop} {m0 : Nat}
    {E : Value → Shared → Prop} {RR : Value → Addr → Result → Shared → Prop}
    (hc : X.calm = true) (hs : scopeOk scope X.env.scope = true) (hcap : capsOk X.N N' cap scope.names = true)
    (hB : ∀ (C : Addr) (ex : List Addr) (s : Shared) (H : Hp), PG (compCx X N' scope (closL X.env.cells scope.names []) C ex s H) target g ∧
      PF (compCx X N' scope (closL X.env.cells scope.names []) C ex s H) ifs tt ∧ PE (compCx X N' scope (closL X.env.cells scope.names []) C ex s H) elt te)
    (I2 : Inv X pins σ H2 s2) (T : Turn X.prog X.w X.K target J fp it tn) (st2 : tn 0 s2.heap) (f2 : ∀ b ∈ fp, FpOk X pins H2 b) (w0 : W 0 m0 [] (capV cap σ) H2) (turn : CompW J g tt te Q W)
    (hR : ∀ (D C : Addr) (s' : Shared), CompEnd X pins σ Q D C s' → RR (.ref D) C (.ok .next) s') :
    wpAny (model X.prog X.w) X.A (newList []) (fun acc s3 => wpAny (model X.prog X.w) X.A (newFunctionEnv scope X.env.globals (closL X.env.cells scope.names []) [] X.env.qual none .none (some X.env)) (fun cenv s4 =>
      codeAny (model X.prog X.w) X.A (.compStart (.ListComp elt [⟨target, iter, ifs, 0⟩] scope pos) 0 (.ref it) acc { cenv with scope := relabel scope X.env }) (RR acc cenv.locals) s4) E s3) E s2 := by
  have hs' := hs
  unfold scopeOk at hs'
  rw [Bool.and_eq_true] at hs'
  have hkind : scope.kind = .function := of_decide_eq_true hs'.1
  have nocell : ∀ y ∈ scope.names, y.2 ≠ .cell := fun y hy e => by
    have q := List.all_eq_true.mp hs'.2 y hy
    rw [e] at q
    cases q
  refine wpAny_newObj_type (wpAny_newFunctionEnv nocell (by intro y hy; simp at hy) (fun h4 hns hsb => ?_) hkind)
  dsimp only at hns hsb ⊢
  generalize hG : s2.heap.push { cls := .type "list", dict := none, data := .seq ([] : List Value).toArray } = G at hns hsb ⊢
  have hC : G.objs.size = s2.heap.objs.size + 1 := by rw [← hG, Heap.size_push]
  have up : ∀ b o, s2.heap.get? b = some o → G.get? b = some o := fun b o e => by rw [← hG]; exact Heap.get?_push_of_some _ e
  have I3 : Inv X pins σ H2 { s2 with heap := G } := I2.kept (t' := s2.toks) up
  have gD : G.get? s2.heap.objs.size = some { cls := .type "list", dict := none, data := .seq ([] : List Value).toArray } := by rw [← hG]; exact Heap.get?_push_size _ rfl
  generalize hDe : s2.heap.objs.size = D at *
  generalize hCe : G.objs.size = C at *
  have hDC : @LT.lt Nat _ D C := by
    have h1 : @Eq Nat C (D + 1) := hC
    omega
  have kp : ∀ b o, G.get? b = some o → h4.get? b = some o := fun b o e =>
    hsb.extBut b o (Nat.ne_of_lt (by have h1 : @LT.lt Nat _ b G.objs.size := Heap.lt_size e; rw [hCe] at h1; exact h1)) (Heap.get?_push_of_some _ e)
  have inn : ∀ b ∈ fp, @LT.lt Nat _ b D := fun b hb => by
    obtain ⟨o, ho, _⟩ := T.obj 0 _ st2 b hb
    have h1 : @LT.lt Nat _ b s2.heap.objs.size := Heap.lt_size ho
    rw [hDe] at h1
    exact h1
  have Y0 := comp_start (t4 := s2.toks + ([] : List (Str × Value)).length) (N' := N') (cap := cap) hs hcap I2 hDe.symm I3 hCe.symm hDC f2 inn hns kp
  obtain ⟨hg, hF, hE⟩ := hB C (D :: fp) { s2 with heap := G } H2
  have st4 : tn 0 h4 := T.keep 0 _ _ st2 fun b hb o e => kp b o (up b o e)
  have gD4 : h4.get? D = some { cls := .type "list", dict := none, data := .seq ([] : List Value).toArray } := kp _ _ gD
  -- the block's context, for short
  generalize hY : compCx X N' scope (closL X.env.cells scope.names []) C (D :: fp) { s2 with heap := G } H2 = Y at Y0 hg hF hE
  have yP : Y.prog = X.prog := by rw [← hY]; rfl
  have yW : Y.w = X.w := by rw [← hY]; rfl
  have yK : Y.K = X.K := by rw [← hY]; rfl
  have yc : Y.calm = true := by rw [← hY]; exact hc
  have yA : Y.A = X.A := by rw [← hY]; rfl
  have yL : Y.env.locals = C := by rw [← hY]; rfl
  have yE : Y.env = compEnvC scope (closL X.env.cells scope.names []) C X.env := by rw [← hY]; rfl
  have yx : Y.xe = fun _ _ => False := by rw [← hY]; rfl
  have yex : Y.ex = D :: fp := by rw [← hY]; rfl
  have ypn : Y.pn = [] := by rw [← hY]; rfl
  have yfs : Y.fs = frs X.stack := by rw [← hY]; rfl
  have ys0 : Y.s₀ = { s2 with heap := G } := by rw [← hY]; rfl
  have yH0 : Y.H₀ = H2 := by rw [← hY]; rfl
  have yok : Y.Ok := Y0.ok
  have exY : ∀ b ∈ D :: fp, b ≠ C ∧ b ∉ Y.fs ∧ ∀ x c, Y.env.cells.lookup x = some c → c ≠ b := fun b hb => by
    have q := yok.exf b (by rw [yex]; exact hb)
    rw [yL] at q
    exact ⟨q.1, yok.exfs b (by rw [yex]; exact hb), q.2⟩
  have noD : D ∉ fp := fun z => Nat.lt_irrefl _ (inn D z)
  have loop : ∀ s4 : Shared, s4 = { s2 with heap := h4, toks := s2.toks + ([] : List (Str × Value)).length } →
      codeAny (model X.prog X.w) X.A (.compLoop (.ListComp elt [⟨target, iter, ifs, 0⟩] scope pos) 0 (.ref it) (.ref D) (compEnvC scope (closL X.env.cells scope.names []) C X.env)) (RR (.ref D) C) s4 := by
    rintro s4 rfl
    refine comp_loop (fun n s => ∃ i acc σ' H' its k, Inv Y [] σ' H' s ∧ tn i s.heap ∧ (∀ b ∈ fp, H' b = none) ∧ H' D = none ∧ s.heap.get? D = some { cls := .type "list", data := .seq (List.toArray its) k } ∧
      Vals acc its ∧ acc.length ≤ sizeLine ∧ W i n acc σ' H') ?_ m0 ⟨0, [], capV cap σ, H2, [], 0, Y0, st4, fun b hb => (f2 b hb).1, ?_, gD4, .nil, Nat.zero_le _, w0⟩
    · rintro n s ⟨i, acc, σ', H', its, k, J1, st, fr, hD0, gDs, rv, hz, wi'⟩
      -- the list that grows, pinned
      have JD : Inv Y [(D, { cls := .type "list", data := .seq (List.toArray its) k })] σ' H' s := J1.pins_of fun p hp => by
        have e : p = (D, { cls := .type "list", data := .seq (List.toArray its) k }) := by simpa using hp
        subst e
        refine ⟨gDs, hD0, ?_, (exY D (by simp)).2.1, fun v => by simp⟩
        rw [yL]
        exact (exY D (by simp)).1
      have fpk : ∀ {H5 : Hp}, (∀ b ∈ fp, H5 b = none) → ∀ b ∈ fp, FpOk Y [(D, { cls := .type "list", data := .seq (List.toArray its) k })] H5 b := fun {H5} hn b hb => by
        have q := exY b (List.mem_cons_of_mem _ hb)
        refine ⟨hn b hb, by rw [yL]; exact q.1, q.2.1, .inl (by rw [yex]; exact List.mem_cons_of_mem _ hb), q.2.2, fun p hp => ?_⟩
        rw [ypn] at hp
        have e : p = (D, { cls := .type "list", data := .seq (List.toArray its) k }) := by simpa using hp
        subst e
        intro z
        exact noD (by rw [show D = b from z]; exact hb)
      rcases turn i n acc σ' H' wi' with ⟨stop, qn⟩ | ⟨go, hlt, step⟩
      · have z := T.done Y yP yW yK yc i _ s σ' H' (fun _ _ => False) JD (fpk fr) st stop
        rw [yA] at z
        refine thn z fun r s1 ⟨hr, J5⟩ => ?_
        subst hr
        refine hR D C s1 ?_
        obtain ⟨m, hn, _⟩ := J5.loc
        rw [yL] at hn
        have hDp := J5.pin (D, { cls := .type "list", data := .seq (List.toArray its) k }) (by rw [ypn]; simp)
        have hCn : H' C = none := by
          have q := J5.free
          rw [yL] at q
          exact q
        have hok' : HOk X.prog X.w H' s1.heap := by
          have q := J5.hok
          rw [yP, yW] at q
          exact q
        have hok2 : HOk X.prog X.w (upd H' D (.lst acc)) s1.heap := hok'.adopt hD0 ⟨hz, its, k, rv, hDp.1⟩
        have bs := J5.base
        rw [yfs, yex, yH0, ys0] at bs
        have old : ∀ b o, s2.heap.get? b = some o → b ≠ D := fun b o e => by
          have h1 : @LT.lt Nat _ b s2.heap.objs.size := Heap.lt_size e
          rw [hDe] at h1
          exact Nat.ne_of_lt h1
        have nin : ∀ b, b ∉ fp → b ≠ D → b ∉ D :: fp := fun b h1 h2 z => by
          rcases List.mem_cons.mp z with y | y
          · exact h2 y
          · exact h1 y
        have hD2 : H2 D = none := I2.hok.fresh (Nat.le_of_eq hDe)
        have un : Un (frs X.stack) fp H2 (upd H' D (.lst acc)) s2.heap s1.heap := by
          refine ⟨fun b o e n hb hx => ?_, fun b o e n hb hx => ?_, fun b o e n hx => ?_, fun b o e hx => ?_, fun b xs e => ?_, fun b o u e => ?_, fun b ps e => ?_⟩
          · exact bs.keep b o (up b o e) n hb (nin b hx (old b o e))
          · exact bs.slot b o (up b o e) n hb (nin b hx (old b o e))
          · rw [upd_ne (old b o e)]
            exact bs.free b o (up b o e) n (nin b hx (old b o e))
          · exact bs.there b o (up b o e) (nin b hx (old b o e))
          · rw [upd_ne (ne_of_none e hD2)]
            exact bs.tups b xs e
          · rw [upd_ne (ne_of_none e hD2)]
            exact bs.frzs b o u e
          · rw [upd_ne (ne_of_none e hD2)]
            exact bs.tbls b ps e
        have os5 : s1.os = s2.os := by
          have q := J5.os
          rw [ys0] at q
          exact q
        refine ⟨m, upd H' D (.lst acc), hn, ?_, I2.fpOk (by rw [hDe]; exact Nat.le_of_lt hDC) ?_, qn D hD0⟩
        · refine I2.call' (s' := s1) (ch := fp) os5 un hok2 J5.bare fun b hb => ?_
          obtain ⟨_, q1, _, q3, q4, q5⟩ := f2 b hb
          exact ⟨q3, q1, q4, q5⟩
        · rw [upd_ne (Nat.ne_of_gt hDC)]
          exact hCn
      · have z := T.item Y yP yW yK yc i _ s σ' H' (fun _ _ => False) JD (fpk fr) st go
        rw [yA] at z
        refine thn z fun r s4 ⟨u, hr, h5⟩ => ?_
        subst hr
        refine thn h5 fun _ s5 ⟨x, H5, J5, r5, y5, st5, fr5⟩ => ?_
        have J5' := J5.pinned (fpk fr5) (T.obj _ _ st5)
        have g1 := hg _ s5 σ' H5 x u _ J5' r5 (step x H5 y5)
        rw [yP, yW, yA, yE, yx] at g1
        refine thn g1 fun _ s6 ⟨σ6, H6, J6, q6⟩ => ?_
        have g2 := hF _ s6 σ6 H6 _ J6 q6
        rw [yP, yW, yA, yE, yx] at g2
        refine thn g2 fun ok s7 ⟨H7, J7, q7⟩ => ?_
        have back : ∀ {σ8 : St} {H8 : Hp} {s8 : Shared}, Inv Y ([(D, { cls := .type "list", data := .seq (List.toArray its) k })] ++ pinsAt fp s5.heap) σ8 H8 s8 →
            Inv Y [] σ8 H8 s8 ∧ tn (i + 1) s8.heap ∧ (∀ b ∈ fp, H8 b = none) ∧ H8 D = none ∧ s8.heap.get? D = some { cls := .type "list", data := .seq (List.toArray its) k } := fun {σ8 H8 s8} J8 => by
          have pin1 : ∀ b ∈ fp, ∀ o, s5.heap.get? b = some o → s8.heap.get? b = some o ∧ H8 b = none := fun b hb o e => by
            have q := J8.pin (b, o) (List.mem_append_right _ (List.mem_append_right _ (mem_pinsAt hb e)))
            exact ⟨q.1, q.2.1⟩
          have pinD := J8.pin (D, { cls := .type "list", data := .seq (List.toArray its) k }) (List.mem_append_right _ (List.mem_append_left _ (by simp)))
          refine ⟨J8.pins_of (fun p hp => nomatch hp), T.keep _ _ _ st5 fun b hb o e => (pin1 b hb o e).1, fun b hb => ?_, pinD.2.1, pinD.1⟩
          obtain ⟨o, e, _⟩ := T.obj _ _ st5 b hb
          exact (pin1 b hb o e).2
        cases ok with
        | false =>
          rw [if_neg (by decide)]
          rw [if_neg (by decide)] at q7
          obtain ⟨m', hm, w7⟩ := q7
          obtain ⟨b1, b2, b3, b4, b5⟩ := back J7
          exact ⟨m', hm, i + 1, acc, σ6, H7, its, k, b1, b2, b3, b4, b5, rv, hz, w7⟩
        | true =>
          rw [if_pos rfl]
          rw [if_pos rfl] at q7
          have g3 := hE _ s7 σ6 H7 _ J7 q7
          rw [yP, yW, yA, yE, yx] at g3
          refine thn g3 fun v s8 ⟨y, H8, J8, ry, m', hm, w8⟩ => ?_
          obtain ⟨b1, b2, b3, b4, b5⟩ := back J8
          have hlen : its.toArray.size ≤ sizeLine := by
            rw [List.size_toArray, ← rv.length]
            exact hz
          refine call_meets F.slot_list_append ⟨_, b5, rfl⟩ F.entry_list_append (F.args_list_append_2 _ _) (PySem.list_append D its.toArray k v hlen) ⟨b5, ?_⟩
          have q9 := PySem.IsL.update b5 (·.push v)
          have e9 : its.toArray.push v = (its ++ [v]).toArray := by simp
          refine ⟨m', hm, i + 1, acc ++ [y], σ6, H8, its ++ [v], (if (its.toArray.push v).size == its.toArray.size then k else k + 1), b1.turned (it := D) (fun b o hb e => ?_) b4 ?_ (.inl ?_) (exY D (by simp)).2.2 (fun p hp => ?_), T.keep _ _ _ b2 fun b hb o e => ?_, b3, b4, ?_, rv.append (.cons ry .nil), ?_, w8⟩
          · exact (Heap.get?_update_other _ _ (Ne.symm hb)).trans e
          · rw [yL]
            exact Nat.ne_of_lt hDC
          · rw [yex]
            simp
          · rw [ypn] at hp
            exact absurd hp (by simp)
          · exact (Heap.get?_update_other _ _ (fun z => noD (by rw [z]; exact hb))).trans e
          · rw [← e9]
            exact q9
          · rw [List.length_append, List.length_singleton]
            omega
    · exact I2.hok.fresh (Nat.le_of_eq hDe)
  exact codeAny_compStart_list (loop _ rfl) (T.self _ 0 _ _ _ st4 (loop _ rfl))

/-- [elt for target in iter if ..] -/
theorem pe_comp (hc : X.calm = true) (hi : PI X target iter wi) (hs : scopeOk scope X.env.scope = true) (hcap : capsOk X.N N' cap scope.names = true)
    (hB : ∀ (C : Addr) (ex : List Addr) (s : Shared) (H : Hp), PG (compCx X N' scope (closL X.env.cells scope.names []) C ex s H) target g ∧
      PF (compCx X N' scope (closL X.env.cells scope.names []) C ex s H) ifs tt ∧ PE (compCx X N' scope (closL X.env.cells scope.names []) C ex s H) elt te)
    (hf : ∀ x, foldedSetIterable iter X.env x = pure x := by intro _; rfl) : PE X (.ListComp elt [⟨target, iter, ifs, 0⟩] scope pos) (tComp wi cap g tt te) := by
  intro pins s σ H Q I h
  have hs' := hs
  unfold scopeOk at hs'
  rw [Bool.and_eq_true] at hs'
  have hn := List.all_eq_true.mp hs'.2
  rw [eval_ListComp]
  refine wpAny_comprehension_free (use := none) (cl := closL X.env.cells scope.names []) (g := ⟨target, iter, ifs, 0⟩) (gs := []) rfl hf (closureFor_run fun y hy e => ?_) (of_decide_eq_true hs'.1) (fun y hy e => ?_) ?_
  · have q := hn y hy
    rw [e] at q
    exact I.ok.has y.1 (.inl (of_decide_eq_true q))
  · have q := hn y hy
    rw [e] at q
    exact of_decide_eq_true q
  refine thn (hi pins s σ H _ I h) fun v s1 h1 => thn h1 fun itv s2 h2 => ?_
  obtain ⟨it, fp, tn, J, H2, e, I2, T, st2, f2, W, ⟨m0, w0⟩, turn⟩ := h2
  subst e
  refine comp_block (Q := Q) (RR := fun acc C => compPost (model X.prog X.w) X.A X.xe none (EP X pins σ Q) acc C) hc hs hcap hB I2 T st2 f2 w0 turn fun D C s' ⟨m, H', hn, I', f', q⟩ => ?_
  exact ⟨m, hn, fun h' hb => ⟨.ref D, H', CompEnd.go I' f' hb, rfl, q⟩⟩
/-- x = [elt for target in iter if ..] where x is a plain local -/
theorem ps_setComp {i : Nat} {x : Str} {pos' spos : Pos} (hN : X.N.Nodup) (hi : X.N[i]? = some x) (hx : X.env.scope.names.lookup x = some .local)
    (hc : X.calm = true) (hI : PI X target iter wi) (hs : scopeOk scope X.env.scope = true) (hcap : capsOk X.N N' cap scope.names = true)
    (hB : ∀ (C : Addr) (ex : List Addr) (s : Shared) (H : Hp), PG (compCx X N' scope (closL X.env.cells scope.names []) C ex s H) target g ∧
      PF (compCx X N' scope (closL X.env.cells scope.names []) C ex s H) ifs tt ∧ PE (compCx X N' scope (closL X.env.cells scope.names []) C ex s H) elt te)
    (hsw : swapsWith (.ListComp elt [⟨target, iter, ifs, 0⟩] scope pos) (some (.Name x pos')) spos.line X.env = pure true := by rfl)
    (hf : ∀ x, foldedSetIterable iter X.env x = pure x := by intro _; rfl) :
    PS X (.Assign [.Name x pos'] (.ListComp elt [⟨target, iter, ifs, 0⟩] scope pos) spos) (fun D σ H => tComp wi cap g tt te σ H fun v H' => D.nx (σ.set i (some v)) H') := by
  intro pins s σ H De I h
  have hs' := hs
  unfold scopeOk at hs'
  rw [Bool.and_eq_true] at hs'
  have hn := List.all_eq_true.mp hs'.2
  rw [exec_Assign_Name_used _ _ _ _ hsw]
  refine wpAny_bind (wpAny_standAt (wpAny_bind ?_))
  show wpAny _ X.A (do let _ ← comprehension (.ListComp elt [⟨target, iter, ifs, 0⟩] scope pos) scope X.env _ (newList []) false (eval iter X.env) (some (assign (.Name x pos') X.env))) _ _ s
  refine wpAny_bind (wpAny_mono (wpAny_comprehension_free (use := some (assign (.Name x pos') X.env)) (Q := fun _ s' => SP X pins De .next s') (cl := closL X.env.cells scope.names [])
    (g := ⟨target, iter, ifs, 0⟩) (gs := []) rfl hf (closureFor_run fun y hy e => ?_) (of_decide_eq_true hs'.1) (fun y hy e => ?_) ?_) (fun _ s' hq => wpAny_pure (wpAny_pure hq)) fun _ _ e => e)
  · have q := hn y hy
    rw [e] at q
    exact I.ok.has y.1 (.inl (of_decide_eq_true q))
  · have q := hn y hy
    rw [e] at q
    exact of_decide_eq_true q
  refine thn (hI pins s σ H _ I h) fun v s1 h1 => thn h1 fun itv s2 h2 => ?_
  obtain ⟨it, fp, tn, J, H2, e, I2, T, st2, f2, W, ⟨m0, w0⟩, turn⟩ := h2
  subst e
  refine comp_block (Q := fun v H' => De.nx (σ.set i (some v)) H') (RR := fun acc C => compPost (model X.prog X.w) X.A X.xe (some (assign (.Name x pos') X.env)) (fun _ s' => SP X pins De .next s') acc C) hc hs hcap hB I2 T st2 f2 w0 turn fun D C s' ⟨m, H', hn, I', f', q⟩ => ?_
  show wpAny _ X.A (assign (.Name x pos') X.env (.ref D)) _ _ s'
  refine wpAny_assign_Name (store_ok2 (v := .ref D) I' hN hi (.inl hx) rfl (fun s'' I'' ch => ?_) (.inr hx))
  obtain ⟨a, hsb, ha⟩ := ch
  have hCa : C ≠ a := by
    rcases ha with z | z
    · rw [z]
      exact f'.2.1
    · exact fun y => f'.2.2.2.2.1 x a z y.symm
  exact ⟨m, hn.sameBut hsb hCa, fun h' hb => ⟨σ.set i (some (.ref D)), H', CompEnd.go I'' f' hb, q⟩⟩
end
end L2

/-! Own rules over the hand layer, 3: built-in calls, isinstance, == of data, is True -/
namespace L2
open PySem PySem.Spec PyProof.Rows

theorem Same.tup {K : PySem.W.Frag} {H H' : Hp} {a : Addr} {xs : List V} (e : Same H H') (h : SqT K H a xs) : SqT K H' a xs := by
  rcases h with (h | ⟨o, h⟩) | h
  · exact .inl (.inl (e _ _ h))
  · exact .inl (.inr ⟨o, e _ _ h⟩)
  · exact .inr h
theorem Same.upd {H : Hp} {p : Addr} (h : H p = none) (o : HO) : Same H (upd H p o) := fun b u q => by
  rw [upd_ne (ne_of_none q h)]
  exact q

/-! ### all, any, sum of a list -/
section
variable {X : Cx}
theorem vals_at {xs : List V} {us : List Value} {i : Nat} {u : Value} (r : Vals xs us) (e : us[i]? = some u) : ∃ x, xs[i]? = some x ∧ RelV x u := by
  have hl := r.length
  have hi : i < xs.length := by
    have := (List.getElem?_eq_some_iff.mp e).1
    omega
  obtain ⟨u', e', r'⟩ := r.get (List.getElem?_eq_getElem hi)
  rw [e] at e'
  cases e'
  exact ⟨_, List.getElem?_eq_getElem hi, r'⟩
theorem range_all (bs : List Bool) : (List.range bs.length).all (fun i => bs.getD i false) = bs.all id := by
  rw [Bool.eq_iff_iff, List.all_eq_true, List.all_eq_true]
  constructor
  · intro h b hb
    obtain ⟨i, hi, e⟩ := List.mem_iff_getElem.mp hb
    have q := h i (List.mem_range.mpr hi)
    rw [List.getD_eq_getElem?_getD, List.getElem?_eq_getElem hi] at q
    rw [← e]
    exact q
  · intro h i hi
    have hi' := List.mem_range.mp hi
    rw [List.getD_eq_getElem?_getD, List.getElem?_eq_getElem hi']
    exact h _ (List.getElem_mem hi')
theorem range_any (bs : List Bool) : (List.range bs.length).any (fun i => bs.getD i false) = bs.any id := by
  rw [Bool.eq_iff_iff, List.any_eq_true, List.any_eq_true]
  constructor
  · rintro ⟨i, hi, q⟩
    have hi' := List.mem_range.mp hi
    rw [List.getD_eq_getElem?_getD, List.getElem?_eq_getElem hi'] at q
    exact ⟨_, List.getElem_mem hi', q⟩
  · rintro ⟨b, hb, q⟩
    obtain ⟨i, hi, e⟩ := List.mem_iff_getElem.mp hb
    refine ⟨i, List.mem_range.mpr hi, ?_⟩
    rw [List.getD_eq_getElem?_getD, List.getElem?_eq_getElem hi, e]
    exact q
theorem truth_bools {bs : List Bool} {its : List Value} {A : Around} (r : Vals (bs.map V.bl) its) :
    TruthOf X.prog X.w A (fun i v => its.toArray[i]? = some v) (fun i => bs.getD i false) := by
  intro i v s Q E hP hQ
  have hP' : its[i]? = some v := by simpa using hP
  obtain ⟨x, hx, rx⟩ := vals_at r hP'
  rw [List.getElem?_map] at hx
  cases hb : bs[i]? with
  | none => rw [hb] at hx; cases hx
  | some b =>
    rw [hb] at hx
    have hx' : V.bl b = x := Option.some.inj hx
    subst hx'
    have rx' : v = Value.bool b := rx
    subst rx'
    refine wpAny_truthy_bool ?_
    have e : bs.getD i false = b := by rw [List.getD_eq_getElem?_getD, hb]; rfl
    have hQ' : Q (bs.getD i false) s := hQ
    rw [e] at hQ'
    exact hQ'
/-- what stood ahead of an iterator that was made and is done with -/
theorem old_iter {h h' : Heap} {o : Obj} (hk : ∀ b u, b ∉ [h.objs.size] → (h.push o).get? b = some u → h'.get? b = some u) (b : Addr) (u : Obj) (e : h.get? b = some u) : h'.get? b = some u := by
  refine hk b u (fun z => ?_) (Heap.get?_push_of_some _ e)
  have z' : @Eq Nat b h.objs.size := by simpa using z
  have h1 : @LT.lt Nat _ b h.objs.size := Heap.lt_size e
  omega
theorem call_all_list (hc : X.A.handled = none) : CallR X (.builtin "all") (fun xs H Q => ∃ (p : Addr) (bs : List Bool), xs = [.ref p] ∧ SqL X.K H p (bs.map V.bl) ∧ Q (.bl (bs.all id)) H) := by
  intro pins s σ H xs us Q I r h
  obtain ⟨p, bs, rfl, hq, q⟩ := h
  obtain ⟨u, rfl, rx⟩ := vals1 r
  cases rx
  obtain ⟨its, rv, pl, hz⟩ := I.list hq
  have hl : s.heap.IsList p its.toArray := pl.isList
  have hlt : p < s.heap.objs.size := by obtain ⟨_, e, _⟩ := hl; exact Heap.lt_size e
  refine call_all_walk (wpAny_pyIter_list hl ?_)
  refine ⟨_, _, _, _, _, _, fun i => bs.getD i false, rfl, Walks.list (A := X.A.in1) hc s.heap.objs.size p (Nat.ne_of_lt hlt) its.toArray, ⟨⟨_, Heap.get?_push_size _ rfl, rfl, rfl⟩, hl.push _⟩, truth_bools rv, fun h' tk hk => ?_⟩
  have e : (List.range its.toArray.size).all (fun i => bs.getD i false) = bs.all id := by
    have hl' := rv.length
    rw [List.length_map] at hl'
    rw [List.size_toArray, ← hl']
    exact range_all bs
  rw [e]
  exact ⟨.bl (bs.all id), H, I.kept (t' := tk) (old_iter hk), rfl, q⟩
theorem call_any_list (hc : X.A.handled = none) : CallR X (.builtin "any") (fun xs H Q => ∃ (p : Addr) (bs : List Bool), xs = [.ref p] ∧ SqL X.K H p (bs.map V.bl) ∧ Q (.bl (bs.any id)) H) := by
  intro pins s σ H xs us Q I r h
  obtain ⟨p, bs, rfl, hq, q⟩ := h
  obtain ⟨u, rfl, rx⟩ := vals1 r
  cases rx
  obtain ⟨its, rv, pl, hz⟩ := I.list hq
  have hl : s.heap.IsList p its.toArray := pl.isList
  have hlt : p < s.heap.objs.size := by obtain ⟨_, e, _⟩ := hl; exact Heap.lt_size e
  refine call_any_walk (wpAny_pyIter_list hl ?_)
  refine ⟨_, _, _, _, _, _, fun i => bs.getD i false, rfl, Walks.list (A := X.A.in1) hc s.heap.objs.size p (Nat.ne_of_lt hlt) its.toArray, ⟨⟨_, Heap.get?_push_size _ rfl, rfl, rfl⟩, hl.push _⟩, truth_bools rv, fun h' tk hk => ?_⟩
  have e : (List.range its.toArray.size).any (fun i => bs.getD i false) = bs.any id := by
    have hl' := rv.length
    rw [List.length_map] at hl'
    rw [List.size_toArray, ← hl']
    exact range_any bs
  rw [e]
  exact ⟨.bl (bs.any id), H, I.kept (t' := tk) (old_iter hk), rfl, q⟩
/-- sorted of fewer than 64 ints -/
theorem call_sorted_ints : CallR X (.builtin "sorted") (fun xs H Q => ∃ (p : Addr) (ns : List Int), xs = [.ref p] ∧ SqL X.K H p (ns.map V.int) ∧ ns.length < 64 ∧
    ∀ (ns' : List Int) (l : Addr), ns'.Perm ns → ns'.Pairwise (· ≤ ·) → H l = none → Q (.ref l) (upd H l (.lst (ns'.map V.int)))) := by
  intro pins s σ H xs us Q I r h
  obtain ⟨p, ns, rfl, hq, h64, q⟩ := h
  obtain ⟨u, rfl, rx⟩ := vals1 r
  cases rx
  obtain ⟨its, rv, pl, hz⟩ := I.list hq
  have hlen : ns.length = its.length := by
    have := rv.length
    rw [List.length_map] at this
    exact this
  refine sorted_ints pl.isList (intsAre_of rv) (by omega) fun out ns' a1 a2 a3 => ?_
  obtain ⟨e, he⟩ := sortedAll_at s.heap its out
  have hfr : H (s.heap.objs.size + 1) = none := I.hok.fresh (Nat.le_succ _)
  have hlen2 : ns'.length = ns.length := a2.length_eq
  refine ⟨.ref (s.heap.objs.size + 1), upd H (s.heap.objs.size + 1) (.lst (ns'.map V.int)), I.laid (t' := s.toks) (fun b o e => sortedAll_old e) (Nat.le_succ _) ?_, rfl, q ns' _ a2 a3 hfr⟩
  refine ⟨by rw [List.length_map, hlen2]; exact Nat.le_of_lt (small1000 (by omega)), out.toList, e, vals_ints a1, ?_⟩
  simpa [seqObj] using he
end

/-! ### isinstance -/
def clsV : V → Value
  | .ty n => .type n
  | .ref a => .ref a
  | _ => .none
section
variable {X : Cx}
/-- isinstance(x, c) tells b -/
def Inst (K : PySem.W.Frag) (H : Hp) (x : V) (c : Value) (b : Bool) : Prop := ∃ t, TyOf K H x t ∧ PySem.W.kitOne K t c = some b
def okC : V → Prop
  | .ty _ => True
  | .ref _ => True
  | _ => False
theorem call_isinst : CallR X (.builtin "isinstance") (fun xs H Q => ∃ x c b, xs = [x, c] ∧ okC c ∧ Inst X.K H x (clsV c) b ∧ Q (.bl b) H) := by
  intro pins s σ H xs us Q I r h
  obtain ⟨x, c, b, rfl, hc, ⟨t, ty, e⟩, q⟩ := h
  obtain ⟨u, v, rfl, ru, rv⟩ := vals2 r
  have hv : v = clsV c := by
    cases c <;> first | exact hc.elim | exact rv
  subst hv
  exact isinst_ok I ru ty e fun tk => ⟨.bl b, H, I.tok tk, rfl, q⟩
theorem kit_tt (K : PySem.W.Frag) (T : String) : PySem.W.kitOne K (.type T) (.type T) = some true := by
  unfold PySem.W.kitOne
  rw [if_pos (by simp)]
theorem inst_ii (K : PySem.W.Frag) (H : Hp) (i : Int) : Inst K H (.int i) (.type "int") true := ⟨_, .int i, kit_tt K _⟩
theorem inst_ib (K : PySem.W.Frag) (H : Hp) (i : Int) : Inst K H (.int i) (.type "bool") false := ⟨_, .int i, by rfl⟩
theorem inst_ll {K : PySem.W.Frag} {H : Hp} {a : Addr} {xs : List V} (e : H a = some (.lst xs)) : Inst K H (.ref a) (.type "list") true := ⟨_, .lst e, kit_tt K _⟩
theorem inst_tt {K : PySem.W.Frag} {H : Hp} {a : Addr} {xs : List V} (e : H a = some (.tup xs)) : Inst K H (.ref a) (.type "tuple") true := ⟨_, .tup e, kit_tt K _⟩
/-- the name of a built-in type -/
theorem pe_ty {x : Str} {n : String} {pos : Pos} (hg : Gl X x) (hm : X.mg x = none) (hv : bootBuiltins x = some (.type n)) (hn : x ≠ "__name__" := by decide) (hd : (x == ("__debug__" : Str)) = false := by decide) : PE X (.Name x pos) (tC (.ty n)) :=
  pe_bltn hg hm hv rfl hn hd
end

/-! ### data, for == -/
mutual
inductive Dt (K : PySem.W.Frag) (H : Hp) : V → PyData → Prop
  | non : Dt K H .non .none
  | bl (b : Bool) : Dt K H (.bl b) (.bool b)
  | int (i : Int) : Dt K H (.int i) (.int i)
  | str (x : Str) : Dt K H (.str x) (.str x)
  | lst {a : Addr} {xs : List V} {ds : List PyData} : SqL K H a xs → Dts K H xs ds → Dt K H (.ref a) (.list ds)
  | tup {a : Addr} {xs : List V} {ds : List PyData} : SqT K H a xs → Dts K H xs ds → Dt K H (.ref a) (.tuple ds)
inductive Dts (K : PySem.W.Frag) (H : Hp) : List V → List PyData → Prop
  | nil : Dts K H [] []
  | cons {x : V} {xs : List V} {d : PyData} {ds : List PyData} : Dt K H x d → Dts K H xs ds → Dts K H (x :: xs) (d :: ds)
end
section
variable {X : Cx} {pins : List (Addr × Obj)} {σ : St} {H : Hp} {s : Shared}
mutual
theorem Dt.reads (I : Inv X pins σ H s) : ∀ {x : V} {d : PyData}, Dt X.K H x d → ∀ u, RelV x u → ∃ as, Reads s.heap u d as
  | _, _, .non, u, r => by cases (show u = Value.none from r); exact ⟨_, Reads.none⟩
  | _, _, .bl b, u, r => by cases (show u = Value.bool b from r); exact ⟨_, Reads.bool b⟩
  | _, _, .int i, u, r => by obtain ⟨t, rfl⟩ := (show ∃ t, u = Value.int i t from r); exact ⟨_, Reads.int i t⟩
  | _, _, .str y, u, r => by obtain ⟨t, rfl⟩ := (show ∃ t, u = Value.str y t from r); exact ⟨_, Reads.str y t⟩
  | _, _, .lst (a := a) hq hd, u, r => by
    cases (show u = Value.ref a from r)
    obtain ⟨its, rv, ⟨o, n, h1, h2, _, h4⟩, _⟩ := I.list hq
    obtain ⟨as, ha⟩ := Dts.reads I hd its rv
    exact ⟨_, Reads.list h1 h2 h4 ha⟩
  | _, _, .tup (a := a) hq hd, u, r => by
    cases (show u = Value.ref a from r)
    obtain ⟨its, rv, ⟨o, h1, h2, n, h4⟩, _⟩ := I.tuple hq
    obtain ⟨as, ha⟩ := Dts.reads I hd its rv
    exact ⟨_, Reads.tuple h1 h2 h4 ha⟩
theorem Dts.reads (I : Inv X pins σ H s) : ∀ {xs : List V} {ds : List PyData}, Dts X.K H xs ds → ∀ us, Vals xs us → ∃ as, ReadsAll s.heap us ds as
  | _, _, .nil, us, r => by cases r; exact ⟨_, ReadsAll.nil⟩
  | _, _, .cons h t, us, r => by
    cases r with
    | cons r1 r2 =>
      obtain ⟨as, ha⟩ := Dt.reads I h _ r1
      obtain ⟨bs, hb⟩ := Dts.reads I t _ r2
      exact ⟨_, ReadsAll.cons ha hb⟩
end
end
mutual
theorem Dt.same {K : PySem.W.Frag} {H H' : Hp} (e : Same H H') : ∀ {x : V} {d : PyData}, Dt K H x d → Dt K H' x d
  | _, _, .non => .non
  | _, _, .bl b => .bl b
  | _, _, .int i => .int i
  | _, _, .str y => .str y
  | _, _, .lst hq hd => .lst (e.seq hq) (Dts.same e hd)
  | _, _, .tup hq hd => .tup (e.tup hq) (Dts.same e hd)
theorem Dts.same {K : PySem.W.Frag} {H H' : Hp} (e : Same H H') : ∀ {xs : List V} {ds : List PyData}, Dts K H xs ds → Dts K H' xs ds
  | _, _, .nil => .nil
  | _, _, .cons h t => .cons (Dt.same e h) (Dts.same e t)
end
section
variable {X : Cx}
theorem op_eqD (hu : X.A.units + 64 < cLine) : OpR X (compareOp .Eq) (fun x y H Q => ∃ d e, Dt X.K H x d ∧ Dt X.K H y e ∧ SeqAt.shaped d = true ∧ SeqAt.shaped e = true ∧ Q (.bl (PyData.eqv d e)) H) := by
  intro pins s σ H x y v u Q I rx ry h
  obtain ⟨d, e, hd, he, s1, s2, q⟩ := h
  obtain ⟨as, ra⟩ := hd.reads I _ rx
  obtain ⟨bs, rb⟩ := he.reads I _ ry
  exact eq_dataH ra rb s1 s2 hu ⟨.bl (PyData.eqv d e), H, I, rfl, q⟩
theorem op_neD (hu : X.A.units + 64 < cLine) : OpR X (compareOp .NotEq) (fun x y H Q => ∃ d e, Dt X.K H x d ∧ Dt X.K H y e ∧ SeqAt.shaped d = true ∧ SeqAt.shaped e = true ∧ Q (.bl (!PyData.eqv d e)) H) := by
  intro pins s σ H x y v u Q I rx ry h
  obtain ⟨d, e, hd, he, s1, s2, q⟩ := h
  obtain ⟨as, ra⟩ := hd.reads I _ rx
  obtain ⟨bs, rb⟩ := he.reads I _ ry
  exact ne_dataH ra rb s1 s2 hu ⟨.bl (!PyData.eqv d e), H, I, rfl, q⟩
end
end L2

namespace L2
open PySem PySem.Spec PyProof.Rows
section
variable {X : Cx}
end
end L2

/-! Own rules over the hand layer, 4: defs, classes and methods that are known, in one word each -/
namespace L2
open PySem PySem.Spec PyProof.Rows

/-- a def's own object -/
def FdAt (K : PySem.W.Frag) (f : Addr) (fd : FuncData) : Prop := ∃ oc od osl, K.lookup f = some ⟨oc, od, .func fd, osl⟩
theorem Fun.fdAt {K : PySem.W.Frag} {x q : Str} {st : Stmt} {f : Addr} {fd : FuncData} (F : Fun K x q st f fd) : FdAt K f fd := by
  obtain ⟨oc, od, kV, doc, pm, an, cdv, ct, osl, _, l, _⟩ := F.ex
  exact ⟨oc, od, osl, l⟩
theorem FdAt.unique {K : PySem.W.Frag} {f : Addr} {fd fd' : FuncData} (h : FdAt K f fd) (h' : FdAt K f fd') : fd = fd' := by
  obtain ⟨_, _, _, l⟩ := h
  obtain ⟨_, _, _, l'⟩ := h'
  rw [l] at l'
  cases l'
  rfl
/-- a def of the text stands under its name and keeps its promise -/
def Known (P : Program) (w : World) (K : PySem.W.Frag) (mg : Str → Option Value) (base : Heap) (k : Nat) (x : Str) (ps : List Str) (sp : Sp) : Prop :=
  ∃ f fd, FnOk P w K mg base CX0 k f fd ps sp ∧ PySem.W.keepIn K (.ref f) = true ∧ Binds K fd ps [] ∧ mg x = some (.ref f) ∧ FdAt K f fd
/-- a method of the class at C -/
def KnownM (P : Program) (w : World) (K : PySem.W.Frag) (mg : Str → Option Value) (base : Heap) (k : Nat) (C : Addr) (m : Str) (ps : List Str) (sp : Sp) : Prop :=
  ∃ f fd, FnOk P w K mg base CX0 k f fd ps sp ∧ Meth K C m f ∧ Binds K fd ps []
/-- a class that is made by its __init__ -/
def KnownC (P : Program) (w : World) (K : PySem.W.Frag) (mg : Str → Option Value) (base : Heap) (k : Nat) (C : Addr) (x : Str) (ps : List Str) (sp : Sp) : Prop :=
  ∃ f fd, FnOk P w K mg base CX0 k f fd ps sp ∧ Mk K C f ∧ Binds K fd ps [] ∧ mg x = some (.ref C)
/-- a def as the top has left it -/
def TopFn (K : PySem.W.Frag) (mg : Str → Option Value) (x : Str) (st : Stmt) (ps : List Str) : Prop :=
  ∃ f fd, Fun K x x st f fd ∧ Binds K fd ps [] ∧ mg x = some (.ref f)
def TopM (K : PySem.W.Frag) (C : Addr) (x q : Str) (st : Stmt) (ps : List Str) : Prop :=
  ∃ f fd, Fun K x q st f fd ∧ Binds K fd ps [] ∧ Meth K C x f
def TopI (K : PySem.W.Frag) (mg : Str → Option Value) (C : Addr) (x q : Str) (st : Stmt) (ps : List Str) : Prop :=
  ∃ f fd, Fun K "__init__" q st f fd ∧ Binds K fd ps [] ∧ Mk K C f ∧ mg x = some (.ref C)

section
variable {P : Program} {w : World} {K : PySem.W.Frag} {mg : Str → Option Value} {base : Heap} {k : Nat} {x q : Str} {C : Addr} {st : Stmt} {N ps : List Str} {sp : Sp}
/-- THE RULE for a def, a method, an __init__, by its body and the body's reading -/
theorem Known.of (F : TopFn K mg x st ps) (S : FnScope N ps (defScope st)) (len : ∀ vs H Q E, sp vs H Q E → vs.length = ps.length)
    (body : ∀ (f : Addr) (cdv : Value) (A : Around) (outer : List Env) (s : Shared) (H : Hp) (vs : List V) (Q : VK) (E : XK), Room k (A.deeper (envOfC x (defScope st) s.heap.objs.size f cdv)) → sp vs H Q E →
      ∃ t, PSs (cxOf CX0 P w K mg base N x (defScope st) f cdv A outer s H E).nox (defBody st) t ∧ t { nx := fun _ H' => Q .non H', rt := Q } (start N vs) H) : Known P w K mg base (k + 1) x ps sp := by
  obtain ⟨f, fd, F, b, m⟩ := F
  exact ⟨f, fd, F.ok S len (body f), F.kp, b, m, F.fdAt⟩
theorem KnownM.of (F : TopM K C x q st ps) (S : FnScope N ps (defScope st)) (len : ∀ vs H Q E, sp vs H Q E → vs.length = ps.length)
    (body : ∀ (f : Addr) (cdv : Value) (A : Around) (outer : List Env) (s : Shared) (H : Hp) (vs : List V) (Q : VK) (E : XK), Room k (A.deeper (envOfC q (defScope st) s.heap.objs.size f cdv)) → sp vs H Q E →
      ∃ t, PSs (cxOf CX0 P w K mg base N q (defScope st) f cdv A outer s H E).nox (defBody st) t ∧ t { nx := fun _ H' => Q .non H', rt := Q } (start N vs) H) : KnownM P w K mg base (k + 1) C x ps sp := by
  obtain ⟨f, fd, F, b, m⟩ := F
  exact ⟨f, fd, F.ok S len (body f), m, b⟩
theorem KnownC.of (F : TopI K mg C x q st ps) (S : FnScope N ps (defScope st)) (len : ∀ vs H Q E, sp vs H Q E → vs.length = ps.length)
    (body : ∀ (f : Addr) (cdv : Value) (A : Around) (outer : List Env) (s : Shared) (H : Hp) (vs : List V) (Q : VK) (E : XK), Room k (A.deeper (envOfC q (defScope st) s.heap.objs.size f cdv)) → sp vs H Q E →
      ∃ t, PSs (cxOf CX0 P w K mg base N q (defScope st) f cdv A outer s H E).nox (defBody st) t ∧ t { nx := fun _ H' => Q .non H', rt := Q } (start N vs) H) : KnownC P w K mg base (k + 1) C x ps sp := by
  obtain ⟨f, fd, F, b, m, e⟩ := F
  exact ⟨f, fd, F.ok S len (body f), m, b, e⟩
end

section
variable {X : Cx} {k : Nat} {x m : Str} {ps : List Str} {sp : Sp} {e o : Expr} {es : List Expr} {t : TA} {ta : TE} {p pos apos : Pos} {C : Addr}
theorem pe_globI {i : Int} (hg : Gl X x) (hm : ∃ t, X.mg x = some (.int i t)) (hd : (x == ("__debug__" : Str)) = false := by decide) : PE X (.Name x pos) (tC (.int i)) := by
  obtain ⟨t, hm⟩ := hm
  exact pe_glob hg hm ⟨t, rfl⟩ hd
theorem pe_fn (h : Known X.prog X.w X.K X.mg X.base k x ps sp) (hr : Room k X.A) (hg : Gl X x) (ha : PA X (e :: es) t) (hdb : (x == ("__debug__" : Str)) = false := by decide)
    (he : starEach (e :: es) X.env = (false, eval e X.env) :: starEach es X.env := by rfl) (hpl : (backTo pos (starEach es X.env)).any (·.1) = false := by rfl) : PE X (.Call (.Name x p) (e :: es) [] pos) (tCall sp [] E0 t) := by
  obtain ⟨f, fd, G, kp, b, m, _⟩ := h
  exact pe_call G hr hg m kp b .nil pass0 ha hdb he hpl
end

end L2

/-! ### Python's own names -/
namespace L2
open PySem PySem.Spec PyProof.Rows
theorem bt_isinstance : bootBuiltins "isinstance" = some (.builtin "isinstance") := by decide +kernel
theorem bt_len : bootBuiltins "len" = some (.builtin "len") := by decide +kernel
theorem bt_all : bootBuiltins "all" = some (.builtin "all") := by decide +kernel
theorem bt_any : bootBuiltins "any" = some (.builtin "any") := by decide +kernel
theorem bt_sorted : bootBuiltins "sorted" = some (.builtin "sorted") := by decide +kernel
theorem bt_max : bootBuiltins "max" = some (.builtin "max") := by decide +kernel
theorem bt_min : bootBuiltins "min" = some (.builtin "min") := by decide +kernel
theorem bt_int : bootBuiltins "int" = some (.type "int") := by decide +kernel
theorem bt_bool : bootBuiltins "bool" = some (.type "bool") := by decide +kernel
theorem bt_list : bootBuiltins "list" = some (.type "list") := by decide +kernel
theorem bt_tuple : bootBuiltins "tuple" = some (.type "tuple") := by decide +kernel
end L2

/-! ### forms one uses: a comprehension over a list that makes nothing on its way -/
namespace L2
open PySem PySem.Spec PyProof.Rows
theorem cxOf_K {CX : CXT} {P : Program} {w : World} {K : PySem.W.Frag} {mg : Str → Option Value} {base : Heap} {N : List Str} {q : Str} {sc : Scope} {f : Addr} {cd : Value} {A : Around} {o : List Env} {s : Shared} {H : Hp} {E : XK} :
    (cxOf CX P w K mg base N q sc f cd A o s H E).K = K := rfl
/-- an object of one field, of two -/
def At1 (H : Hp) (p C : Addr) (f : Str) (x : V) : Prop := ∃ dx fs, H p = some (.ins C dx fs) ∧ fs.lookup f = some x ∧ fs.lookup ("shows" : Str) = none
def At2 (H : Hp) (p C : Addr) (f g : Str) (x y : V) : Prop := ∃ dx fs, H p = some (.ins C dx fs) ∧ fs.lookup f = some x ∧ fs.lookup g = some y ∧ fs.lookup ("shows" : Str) = none
theorem At1.same {H H' : Hp} {p C : Addr} {f : Str} {x : V} (s : Same H H') (h : At1 H p C f x) : At1 H' p C f x := by
  obtain ⟨dx, fs, h1, h2⟩ := h
  exact ⟨dx, fs, s _ _ h1, h2⟩
theorem At2.same {H H' : Hp} {p C : Addr} {f g : Str} {x y : V} (s : Same H H') (h : At2 H p C f g x y) : At2 H' p C f g x y := by
  obtain ⟨dx, fs, h1, h2⟩ := h
  exact ⟨dx, fs, s _ _ h1, h2⟩
theorem seq_of {t u : TS} {D : Ends} {σ : St} {H : Hp} (h : t { D with nx := u D } σ H) : tSeq t u D σ H := h
theorem scal_ii (a b : Int) : scal (.int a) (.int b) = true := rfl
theorem scal_ss (a b : Str) : scal (.str a) (.str b) = true := rfl
theorem scal_bb (a b : Bool) : scal (.bl a) (.bl b) = true := rfl
end L2

/-! Own rules over the hand layer, 5: range with a step -/
namespace L2
open PySem PySem.Spec PyProof.Rows
section
variable {X : Cx} {tg : Expr}
end
end L2

/-! rules within a comprehension: the frame's own K, written -/
namespace L2
open PySem PySem.Spec PyProof.Rows
theorem call_isinstK {X : Cx} {K : PySem.W.Frag} (h : X.K = K) : CallR X (.builtin "isinstance") (fun xs H Q => ∃ x c b, xs = [x, c] ∧ okC c ∧ Inst K H x (clsV c) b ∧ Q (.bl b) H) := h ▸ call_isinst
theorem comp_tup {K : PySem.W.Frag} {a : Addr} {xs : List V} {ρ : St} {v0 : Option V} {te : TE} {Q : VK} {H : Hp} (f : V → V) (hl : SqT K H a xs) (hz : xs.length ≤ sizeLine)
    (hf : ∀ x ∈ xs, ∀ R : VK, R (f x) H → te (some x :: ρ) H R) (hq : ∀ D, H D = none → Q (.ref D) (upd H D (.lst (xs.map f)))) :
    ∃ W : Nat → Nat → List V → St → Hp → Prop, (∃ m, W 0 m [] (v0 :: ρ) H) ∧ CompW (Itt K a) (gName 0) tAll te Q W := by
  refine ⟨fun i m acc σ H' => m = xs.length - i ∧ i ≤ xs.length ∧ acc = (xs.take i).map f ∧ H' = H ∧ ∃ v, σ = v :: ρ, ⟨xs.length, rfl, Nat.zero_le _, rfl, rfl, v0, rfl⟩, ?_⟩
  rintro i m acc σ H' ⟨rfl, hi, rfl, rfl, v, rfl⟩
  by_cases hlt : i < xs.length
  · refine .inr ⟨⟨xs, xs[i], hl, by simp [hlt]⟩, ?_, fun x H2 y => ?_⟩
    · rw [List.length_map, List.length_take]
      omega
    · obtain ⟨e, y⟩ := y
      subst e
      have hx : xs[i]? = some x := y xs hl
      have hxe : xs[i] = x := by
        rw [List.getElem?_eq_getElem hlt] at hx
        exact Option.some.inj hx
      simp only [gName, tAll, List.set_cons_zero, if_true]
      refine hf x (hxe ▸ List.getElem_mem hlt) _ ⟨xs.length - (i + 1), by omega, rfl, hlt, ?_, rfl, _, rfl⟩
      rw [List.take_succ_eq_append_getElem hlt, List.map_append, hxe]
      rfl
  · have e : i = xs.length := by omega
    subst e
    refine .inl ⟨⟨xs, hl, Nat.le_refl _⟩, fun D hD => ?_⟩
    rw [List.take_length]
    exact hq D hD
theorem rd_compT {K : PySem.W.Frag} {i : Nat} {a : Addr} {xs : List V} {cap : List (Option Nat)} {σ : St} {te : TE} {Q : VK} {H : Hp} (f : V → V) (hσ : σ[i]? = some (some (.ref a))) (hl : SqT K H a xs) (hz : xs.length ≤ sizeLine)
    (hf : ∀ x ∈ xs, ∀ R : VK, R (f x) H → te (some x :: capV cap σ) H R) (hq : ∀ D, H D = none → Q (.ref D) (upd H D (.lst (xs.map f)))) :
    tComp (iTup K (tVar i)) (none :: cap) (gName 0) tAll te σ H Q :=
  ⟨_, hσ, a, rfl, ⟨xs, hl⟩, comp_tup f hl hz hf hq⟩
end L2

/-! Own rules over the hand layer, 7: comprehensions with a test -/
namespace L2
open PySem PySem.Spec PyProof.Rows
/-! ### a comparison of three links -/
def tChain3 (r r' r'' : R2) (ta tb tc td : TE) : TE := fun σ H Q => ta σ H fun x H1 => tb σ H1 fun y H2 => r x y H2 fun z H3 => ∃ k, z = .bl k ∧
  (if k = true then tc σ H3 fun w' H4 => r' y w' H4 fun z' H5 => ∃ k', z' = .bl k' ∧ (if k' = true then td σ H5 fun v' H6 => r'' w' v' H6 Q else Q (.bl false) H5) else Q (.bl false) H3)
theorem pt_chain3 {X : Cx} {a b c d : Expr} {pos : Pos} {ta tb tc td : TE} {op op' op'' : CmpOp} {r r' r'' : R2} (ho : OpR X (compareOp op) r) (ho' : OpR X (compareOp op') r') (ho'' : OpR X (compareOp op'') r'') (ha : PE X a ta) (hb : PE X b tb) (hc : PE X c tc) (hd : PE X d td)
    (hm : lastMarks [op, op', op''] [b, c, d] = false := by with_unfolding_all rfl) : PT X (.Compare a [op, op', op''] [b, c, d] pos) (tTest (tChain3 r r' r'' ta tb tc td)) := by
  intro pins s σ H Q I h
  refine isTrue_chain (thn (ha pins s σ H _ I h) fun v s1 ⟨x, H1, I1, r1, q1⟩ => test_link (thn (hb pins s1 σ H1 _ I1 q1) fun u s2 ⟨y, H2, I2, r2, q2⟩ =>
    thn (ho pins s2 σ H2 x y v u _ I2 r1 r2 q2) fun d s3 ⟨z, H3, I3, r3, k, e, q3⟩ => ?_)) hm
  subst e
  cases r3
  refine wpAny_truthy_bool ?_
  cases k with
  | false =>
    obtain ⟨k', e', q'⟩ := q3
    cases e'
    exact ite_ff ⟨H3, I3, q'⟩
  | true =>
    refine ite_tt (test_link (thn (hc pins s3 σ H3 _ I3 q3) fun w' s4 ⟨z', H4, I4, r4, q4⟩ => thn (ho' pins s4 σ H4 y z' u w' _ I4 r2 r4 q4) fun d2 s5 ⟨z2, H5, I5, r5, k2, e2, q5⟩ => ?_))
    subst e2
    cases r5
    refine wpAny_truthy_bool ?_
    cases k2 with
    | false =>
      obtain ⟨k', e', q'⟩ := q5
      cases e'
      exact ite_ff ⟨H5, I5, q'⟩
    | true =>
      refine ite_tt (test_last (thn (hd pins s5 σ H5 _ I5 q5) fun w2 s6 ⟨z3, H6, I6, r6, q6⟩ => thn (ho'' pins s6 σ H6 z' z3 w' w2 _ I6 r4 r6 q6) fun d' s7 ⟨z4, H7, I7, r7, k3, e3, q7⟩ => ?_))
      subst e3
      cases r7
      exact wpAny_truthy_bool ⟨H7, I7, q7⟩
end L2

/-! Own rules over the hand layer, 8: the law itself, for the closing theorem -/
namespace L2
open PySem PySem.Spec PyProof.Rows
theorem top_law {P : Program} {w : World} {K : PySem.W.Frag} {mg : Str → Option Value} {fa : Addr} {st : Stmt} {sp : Sp} {k : Nat} (F : TopFn K mg "law" st ["_law_script"]) (hmg : mg "law" = some (.ref fa)) (hk : k ≤ 60)
    (L : ∀ base : Heap, Known P w K mg base k "law" ["_law_script"] sp) (hb : ∀ (kV doc pm : Value) (an : Option Addr) (cdv ct : Value) (s : Shared) (u : Value), BindsTo s (PySem.W.fnOf "law" "law" (defArgs st) (defBody st) (defScope st) .none kV doc pm an cdv ct) ⟨[u], []⟩ [("_law_script", u)]) :
    ∃ fd : FuncData, (∀ (s : Shared) (u : Value), BindsTo s fd ⟨[u], []⟩ [("_law_script", u)]) ∧ ∀ base : Heap, K.In base → base.Ns mainGlobals mg → FnOk P w K mg base CX0 60 fa fd ["_law_script"] sp := by
  obtain ⟨f, fd, G, b, m⟩ := F
  have e : f = fa := by
    have := m.symm.trans hmg
    cases this
    rfl
  subst e
  have hB : ∀ (s : Shared) (u : Value), BindsTo s fd ⟨[u], []⟩ [("_law_script", u)] := by
    obtain ⟨oc, od, kV, doc, pm, an, cdv, ct, osl, rfl, l, _⟩ := G.ex
    exact hb kV doc pm an cdv ct
  refine ⟨fd, hB, fun base _ _ => ?_⟩
  obtain ⟨f', fd', G', _, _, m', a'⟩ := L base
  have e : f' = f := by
    have := m'.symm.trans hmg
    cases this
    rfl
  subst e
  rw [G.fdAt.unique a']
  exact G'.mono hk
end L2

namespace Sq
/-! Mathematics: which numbers to 10000 are two, three, four squares; by sets of bits -/
/-- shifts of one set of bits -/
def shifts (b : Nat) : List Nat → Nat
  | [] => 0
  | n :: r => Nat.lor (Nat.shiftLeft b n) (shifts b r)
def sqs : Nat → List Nat
  | 0 => [0]
  | n + 1 => ((n + 1) * (n + 1)) :: sqs n
def b1 : Nat := shifts 1 (sqs 100)
def b2 : Nat := shifts b1 (sqs 100)
def b3 : Nat := shifts b2 (sqs 100)
def b4 : Nat := shifts b3 (sqs 100)
end Sq

namespace Sq
end Sq

namespace Sq
/-- the ways of a number in two squares, in their order -/
def IsPairs (n : Nat) (ps : List (Nat × Nat)) : Prop := ps.Pairwise (fun x y => x.1 < y.1) ∧ ∀ a b, (a, b) ∈ ps ↔ a ≤ b ∧ a * a + b * b = n
theorem sq_inj {a b : Nat} (h : a * a = b * b) : a = b := by
  rcases Nat.lt_trichotomy a b with z | z | z
  · have := Nat.mul_self_lt_mul_self z; omega
  · exact z
  · have := Nat.mul_self_lt_mul_self z; omega
theorem lt_sorted_ext : ∀ {a b : List (Nat × Nat)}, a.Pairwise (fun x y => x.1 < y.1) → b.Pairwise (fun x y => x.1 < y.1) → (∀ x, x ∈ a ↔ x ∈ b) → a = b
  | [], [], _, _, _ => rfl
  | [], y :: b, _, _, h => absurd ((h y).mpr List.mem_cons_self) (by simp)
  | x :: a, [], _, _, h => absurd ((h x).mp List.mem_cons_self) (by simp)
  | x :: a, y :: b, ha, hb, h => by
    rw [List.pairwise_cons] at ha hb
    have exy : x = y := by
      rcases List.mem_cons.mp ((h x).mp List.mem_cons_self) with z | z
      · exact z
      · rcases List.mem_cons.mp ((h y).mpr List.mem_cons_self) with w | w
        · exact w.symm
        · have h1 := hb.1 x z
          have h2 := ha.1 y w
          omega
    subst exy
    congr 1
    refine lt_sorted_ext ha.2 hb.2 fun z => ⟨fun hz => ?_, fun hz => ?_⟩
    · rcases List.mem_cons.mp ((h z).mp (List.mem_cons_of_mem _ hz)) with w | w
      · subst w
        exact absurd (ha.1 z hz) (Nat.lt_irrefl _)
      · exact w
    · rcases List.mem_cons.mp ((h z).mpr (List.mem_cons_of_mem _ hz)) with w | w
      · subst w
        exact absurd (hb.1 z hz) (Nat.lt_irrefl _)
      · exact w
theorem IsPairs.unique {n : Nat} {ps qs : List (Nat × Nat)} (h : IsPairs n ps) (g : IsPairs n qs) : ps = qs :=
  lt_sorted_ext h.1 g.1 fun x => by
    obtain ⟨a, b⟩ := x
    rw [h.2, g.2]
end Sq

namespace Sq
/-! Mathematics of the walks: all of them to 300, their sources -/
def oddOf (f s : Nat) : Nat := if f % 2 = 1 then f else s
def WR (n r : Nat) : Prop := r * r ≤ n ∧ n < (r + 1) * (r + 1)
/-- what a source makes: the third, the lesser, the greater -/
def made (m n k : Nat) : Nat × Nat × Nat := (k * (m * m + n * n), min (k * (m * m - n * n)) (k * 2 * m * n), max (k * (m * m - n * n)) (k * 2 * m * n))
/-- a source, as the law asks it -/
def Src (m n k : Nat) : Prop := n < m ∧ 0 < n ∧ 0 < k ∧ (m + n) % 2 = 1 ∧ Nat.gcd m n = 1 ∧ m ≤ 10000 ∧ k ≤ 10000
def Walk (a b c : Nat) : Prop := 0 < a ∧ a < b ∧ b < c ∧ c ≤ 10000 ∧ a * a + b * b = c * c
theorem sq_lt_of {a b : Nat} (h : a * a < b * b) : a < b := by
  rcases Nat.lt_or_ge a b with z | z
  · exact z
  · have := Nat.mul_le_mul z z
    omega
theorem WR.unique {n r s : Nat} (h : WR n r) (g : WR n s) : r = s := by
  have a := sq_lt_of (Nat.lt_of_le_of_lt h.1 g.2)
  have b := sq_lt_of (Nat.lt_of_le_of_lt g.1 h.2)
  omega
def rtB (n : Nat) : Nat → Nat → Nat
  | 0, r => r
  | k + 1, r => if (r + 2 ^ k) * (r + 2 ^ k) ≤ n then rtB n k (r + 2 ^ k) else rtB n k r
theorem rtB_ok (n : Nat) : ∀ k r, r * r ≤ n → n < (r + 2 ^ k) * (r + 2 ^ k) → WR n (rtB n k r)
  | 0, r, h1, h2 => ⟨h1, h2⟩
  | k + 1, r, h1, h2 => by
    unfold rtB
    split
    · rename_i h
      refine rtB_ok n k _ h ?_
      rw [Nat.add_assoc, ← Nat.two_mul, Nat.mul_comm, Nat.mul_comm 2, ← Nat.pow_succ]
      rw [Nat.mul_comm]
      exact h2
    · rename_i h
      exact rtB_ok n k _ h1 (by omega)
def rt (n : Nat) : Nat := rtB n 9 0
theorem rt_ok {n : Nat} (h : n < 262144) : WR n (rt n) := rtB_ok n 9 0 (by omega) (by omega)
theorem rt_sq {n r : Nat} (h : n < 262144) (e : r * r = n) : rt n = r := by
  refine (rt_ok h).unique ⟨by omega, ?_⟩
  rw [← e]
  exact Nat.mul_self_lt_mul_self (by omega)
/-- no square is twice a square -/
theorem no_twice : ∀ (c a : Nat), a * a + a * a = c * c → c = 0
  | c, a, h => by
    by_cases hc : c = 0
    · exact hc
    · exfalso
      have h2 : c * c % 2 = 0 := by omega
      have hcm : c % 2 = 0 := by
        rcases Nat.mod_two_eq_zero_or_one c with z | z
        · exact z
        · rw [Nat.mul_mod, z] at h2
          omega
      obtain ⟨d, hd⟩ : ∃ d, c = 2 * d := ⟨c / 2, by omega⟩
      subst hd
      have e : 2 * d * (2 * d) = 2 * (d * d + d * d) := by
        rw [Nat.mul_mul_mul_comm]; omega
      have h3 : d * d + d * d = a * a := by omega
      have d1 : 1 ≤ d := by omega
      have d2 := Nat.mul_le_mul d1 d1
      have lt : a < 2 * d := sq_lt_of (by omega)
      have := no_twice a d h3
      rw [this] at h3
      omega
termination_by c => c
/-- one and other of a third, by one below j -/
def bitOf (m n : Nat) : Bool := Nat.beq (Nat.land (Nat.shiftRight m n) 1) 1
/-- a quick look: what a square leaves by 64, 63, 65 -/
def pre (n : Nat) : Bool := bitOf 144680414395695635 (n % 64) && bitOf 288872697407275667 (n % 63) && bitOf 20863489977805260307 (n % 65)
theorem pre_sq (r : Nat) : pre (r * r) = true := by
  have h1 : ∀ x < 64, bitOf 144680414395695635 (x * x % 64) = true := by decide
  have h2 : ∀ x < 63, bitOf 288872697407275667 (x * x % 63) = true := by decide
  have h3 : ∀ x < 65, bitOf 20863489977805260307 (x * x % 65) = true := by decide
  unfold pre
  rw [Nat.mul_mod r r 64, Nat.mul_mod r r 63, Nat.mul_mod r r 65, h1 _ (Nat.mod_lt _ (by decide)), h2 _ (Nat.mod_lt _ (by decide)), h3 _ (Nat.mod_lt _ (by decide))]
  rfl
def hit (c a : Nat) : Bool := pre (c * c - a * a) && (decide (0 < a) && decide (a < rt (c * c - a * a)) && decide (rt (c * c - a * a) * rt (c * c - a * a) = c * c - a * a))
def wcTo (c : Nat) : Nat → List (Nat × Nat)
  | 0 => []
  | j + 1 => wcTo c j ++ (if hit c j then [(j, rt (c * c - j * j))] else [])
theorem wcTo_mem {c : Nat} (hc : c ≤ 300) : ∀ j, j ≤ c → ∀ a b, (a, b) ∈ wcTo c j ↔ a < j ∧ 0 < a ∧ a < b ∧ a * a + b * b = c * c
  | 0, _, a, b => by simp [wcTo]
  | j + 1, hj, a, b => by
    have ih := wcTo_mem hc j (by omega) a b
    have hcc : c * c ≤ 300 * 300 := Nat.mul_le_mul hc hc
    have hjj : j * j ≤ c * c := Nat.mul_le_mul (by omega) (by omega)
    unfold wcTo
    rw [List.mem_append, ih]
    constructor
    · rintro (h | h)
      · exact ⟨by omega, h.2⟩
      · split at h
        · rename_i hh
          obtain ⟨rfl, rfl⟩ := Prod.mk.inj (List.mem_singleton.mp h)
          unfold hit at hh
          simp only [Bool.and_eq_true, decide_eq_true_eq] at hh
          obtain ⟨_, ⟨hh1, hh2⟩, hh3⟩ := hh
          exact ⟨by omega, hh1, hh2, by omega⟩
        · simp at h
    · rintro ⟨h1, h2, h3, h4⟩
      by_cases e : a < j
      · exact .inl ⟨e, h2, h3, h4⟩
      · right
        have : a = j := by omega
        subst this
        have er : rt (c * c - a * a) = b := rt_sq (by omega) (by omega)
        rw [if_pos]
        · rw [er]; exact List.mem_singleton.mpr rfl
        · unfold hit
          rw [er]
          simp only [Bool.and_eq_true, decide_eq_true_eq]
          refine ⟨?_, ⟨h2, h3⟩, by omega⟩
          rw [show c * c - a * a = b * b by omega]
          exact pre_sq b
theorem wcTo_lt {c : Nat} : ∀ j, ∀ x ∈ wcTo c j, x.1 < j
  | 0, x, h => by simp [wcTo] at h
  | j + 1, x, h => by
    unfold wcTo at h
    rcases List.mem_append.mp h with h | h
    · exact Nat.lt_succ_of_lt (wcTo_lt j x h)
    · split at h
      · rw [List.mem_singleton.mp h]; exact Nat.lt_succ_self j
      · simp at h
theorem wcTo_srt {c : Nat} : ∀ j, (wcTo c j).Pairwise (fun x y => x.1 < y.1)
  | 0 => by simp [wcTo]
  | j + 1 => by
    unfold wcTo
    refine List.pairwise_append.mpr ⟨wcTo_srt j, by split <;> simp, fun x hx y hy => ?_⟩
    split at hy
    · rw [List.mem_singleton.mp hy]; exact wcTo_lt j x hx
    · simp at hy
theorem wcTo_len {c : Nat} : ∀ j, (wcTo c j).length ≤ j
  | 0 => by simp [wcTo]
  | j + 1 => by
    unfold wcTo
    have := wcTo_len (c := c) j
    rw [List.length_append]
    split
    · show _ + 1 ≤ _; omega
    · show _ + 0 ≤ _; omega
/-- all walks to a third, the third told first -/
def WT : Nat → List (Nat × Nat × Nat)
  | 0 => []
  | M + 1 => WT M ++ (wcTo (M + 1) (M + 1)).map fun p => (M + 1, p.1, p.2)
def rot (t : Nat × Nat × Nat) : Nat × Nat × Nat := (t.2.1, t.2.2, t.1)
theorem wc_pairs {c : Nat} (hc : c ≤ 300) (h0 : 0 < c) {ps : List (Nat × Nat)} (h : IsPairs (c * c) ps) : ps.filter (fun p => decide (0 < p.1)) = wcTo c c := by
  refine lt_sorted_ext (h.1.filter _) (wcTo_srt c) fun x => ?_
  obtain ⟨a, b⟩ := x
  rw [List.mem_filter, h.2, wcTo_mem hc c (Nat.le_refl _)]
  simp only [decide_eq_true_eq]
  constructor
  · rintro ⟨⟨h1, h2⟩, h3⟩
    have hne : a ≠ b := fun e => by
      subst e
      have := no_twice c a h2
      omega
    refine ⟨?_, h3, by omega, h2⟩
    refine sq_lt_of ?_
    have := Nat.mul_le_mul (show 1 ≤ b by omega) (show 1 ≤ b by omega)
    omega
  · rintro ⟨h1, h2, h3, h4⟩
    exact ⟨⟨by omega, h4⟩, h2⟩
/-- whether the source that is told of a walk is one: third, lesser, greater -/
def okS (t : Nat × Nat × Nat) : Bool :=
  let c := t.1; let a := t.2.1; let b := t.2.2
  let g := Nat.gcd a b
  let o := oddOf (a / g) (b / g)
  let m := rt ((c / g + o) / 2)
  let n := rt ((c / g - o) / 2)
  decide (0 < a) && decide (a < b) && decide (b < c) && decide (a * a + b * b = c * c) && decide (n < m) && decide (0 < n) && decide (0 < g) && decide ((m + n) % 2 = 1) && decide (Nat.gcd m n = 1) && decide (m ≤ 10000) && decide (g ≤ 10000) && decide (made m n g = t)
theorem okS_src {a b c : Nat} (h : okS (c, a, b) = true) (hc : c ≤ 10000) : Walk a b c ∧ ∀ m n g, g = Nat.gcd a b → WR ((c / g + oddOf (a / g) (b / g)) / 2) m → WR ((c / g - oddOf (a / g) (b / g)) / 2) n → Src m n g ∧ made m n g = (c, a, b) := by
  unfold okS at h
  simp only [Bool.and_eq_true, decide_eq_true_eq, and_assoc] at h
  obtain ⟨h1, h2, h3, h4, h5, h6, h7, h8, h9, h10, h11, h12⟩ := h
  refine ⟨⟨h1, h2, h3, hc, h4⟩, fun m n g hg hm hn => ?_⟩
  have cg : c / g ≤ 10000 := Nat.le_trans (Nat.div_le_self c g) hc
  have ob : oddOf (a / g) (b / g) ≤ 10000 := by
    have := Nat.div_le_self a g
    have := Nat.div_le_self b g
    unfold oddOf; split <;> omega
  rw [← hg] at h5 h6 h7 h8 h9 h10 h11 h12
  have em := hm.unique (rt_ok (by omega))
  have en := hn.unique (rt_ok (by omega))
  rw [← em, ← en] at h5 h8 h9 h12
  rw [← em] at h10
  rw [← en] at h6
  exact ⟨⟨h5, h6, h7, h8, h9, h10, h11⟩, h12⟩
theorem made_all : ((List.range 40).all fun n => (List.range 12).all fun j => (List.range 3).all fun k => let t := made (n + 1 + 1 + 2 * j) (n + 1) (k + 1); if t.1 ≤ 10000 then okS t else true) = true := by decide +kernel
def L300 : List (Nat × Nat × Nat) := [
  (5, 3, 4), (10, 6, 8), (13, 5, 12), (15, 9, 12), (17, 8, 15), (20, 12, 16), (25, 7, 24), (25, 15, 20), (26, 10, 24), (29, 20, 21), (30, 18, 24), (34, 16, 30),
  (35, 21, 28), (37, 12, 35), (39, 15, 36), (40, 24, 32), (41, 9, 40), (45, 27, 36), (50, 14, 48), (50, 30, 40), (51, 24, 45), (52, 20, 48), (53, 28, 45), (55, 33, 44),
  (58, 40, 42), (60, 36, 48), (61, 11, 60), (65, 16, 63), (65, 25, 60), (65, 33, 56), (65, 39, 52), (68, 32, 60), (70, 42, 56), (73, 48, 55), (74, 24, 70), (75, 21, 72),
  (75, 45, 60), (78, 30, 72), (80, 48, 64), (82, 18, 80), (85, 13, 84), (85, 36, 77), (85, 40, 75), (85, 51, 68), (87, 60, 63), (89, 39, 80), (90, 54, 72), (91, 35, 84),
  (95, 57, 76), (97, 65, 72), (100, 28, 96), (100, 60, 80), (101, 20, 99), (102, 48, 90), (104, 40, 96), (105, 63, 84), (106, 56, 90), (109, 60, 91), (110, 66, 88), (111, 36, 105),
  (113, 15, 112), (115, 69, 92), (116, 80, 84), (117, 45, 108), (119, 56, 105), (120, 72, 96), (122, 22, 120), (123, 27, 120), (125, 35, 120), (125, 44, 117), (125, 75, 100), (130, 32, 126),
  (130, 50, 120), (130, 66, 112), (130, 78, 104), (135, 81, 108), (136, 64, 120), (137, 88, 105), (140, 84, 112), (143, 55, 132), (145, 17, 144), (145, 24, 143), (145, 87, 116), (145, 100, 105),
  (146, 96, 110), (148, 48, 140), (149, 51, 140), (150, 42, 144), (150, 90, 120), (153, 72, 135), (155, 93, 124), (156, 60, 144), (157, 85, 132), (159, 84, 135), (160, 96, 128), (164, 36, 160),
  (165, 99, 132), (169, 65, 156), (169, 119, 120), (170, 26, 168), (170, 72, 154), (170, 80, 150), (170, 102, 136), (173, 52, 165), (174, 120, 126), (175, 49, 168), (175, 105, 140), (178, 78, 160),
  (180, 108, 144), (181, 19, 180), (182, 70, 168), (183, 33, 180), (185, 57, 176), (185, 60, 175), (185, 104, 153), (185, 111, 148), (187, 88, 165), (190, 114, 152), (193, 95, 168), (194, 130, 144),
  (195, 48, 189), (195, 75, 180), (195, 99, 168), (195, 117, 156), (197, 28, 195), (200, 56, 192), (200, 120, 160), (202, 40, 198), (203, 140, 147), (204, 96, 180), (205, 45, 200), (205, 84, 187),
  (205, 123, 164), (205, 133, 156), (208, 80, 192), (210, 126, 168), (212, 112, 180), (215, 129, 172), (218, 120, 182), (219, 144, 165), (220, 132, 176), (221, 21, 220), (221, 85, 204), (221, 104, 195),
  (221, 140, 171), (222, 72, 210), (225, 63, 216), (225, 135, 180), (226, 30, 224), (229, 60, 221), (230, 138, 184), (232, 160, 168), (233, 105, 208), (234, 90, 216), (235, 141, 188), (238, 112, 210),
  (240, 144, 192), (241, 120, 209), (244, 44, 240), (245, 147, 196), (246, 54, 240), (247, 95, 228), (250, 70, 240), (250, 88, 234), (250, 150, 200), (255, 39, 252), (255, 108, 231), (255, 120, 225),
  (255, 153, 204), (257, 32, 255), (259, 84, 245), (260, 64, 252), (260, 100, 240), (260, 132, 224), (260, 156, 208), (261, 180, 189), (265, 23, 264), (265, 96, 247), (265, 140, 225), (265, 159, 212),
  (267, 117, 240), (269, 69, 260), (270, 162, 216), (272, 128, 240), (273, 105, 252), (274, 176, 210), (275, 77, 264), (275, 165, 220), (277, 115, 252), (280, 168, 224), (281, 160, 231), (285, 171, 228),
  (286, 110, 264), (287, 63, 280), (289, 136, 255), (289, 161, 240), (290, 34, 288), (290, 48, 286), (290, 174, 232), (290, 200, 210), (291, 195, 216), (292, 192, 220), (293, 68, 285), (295, 177, 236),
  (296, 96, 280), (298, 102, 280), (299, 115, 276), (300, 84, 288), (300, 180, 240)]
theorem WT300 : WT 300 = L300 := by decide +kernel
theorem walks_all : L300.all okS = true := by decide +kernel
/-- the walks from sources with a first number -/
def srcN (M m n : Nat) : List (Nat × Nat × Nat) := if (m + n) % 2 = 1 ∧ Nat.gcd m n = 1 then (List.range (M / (m * m + n * n))).map fun k => made m n (k + 1) else []
def srcM (M m : Nat) : List (Nat × Nat × Nat) := (List.range (m - 1)).flatMap fun i => srcN M m (i + 1)
def srcAll (M : Nat) : List (Nat × Nat × Nat) := (List.range 16).flatMap fun i => srcM M (i + 2)
theorem src_perm : (srcAll 300).isPerm L300 = true := by decide +kernel
def code (t : Nat × Nat × Nat) : Nat := t.1 * 1000000 + t.2.1 * 1000 + t.2.2
def ltNext : List (Nat × Nat × Nat) → Bool
  | [] => true
  | [_] => true
  | x :: y :: r => decide (code x < code y) && ltNext (y :: r)
theorem ltNext_pw : ∀ {l : List (Nat × Nat × Nat)}, ltNext l = true → l.Pairwise fun x y => code x < code y
  | [], _ => List.Pairwise.nil
  | [_], _ => List.pairwise_singleton _ _
  | x :: y :: r, h => by
    unfold ltNext at h
    simp only [Bool.and_eq_true, decide_eq_true_eq] at h
    have ih := ltNext_pw h.2
    refine List.pairwise_cons.mpr ⟨fun z hz => ?_, ih⟩
    rcases List.mem_cons.mp hz with e | hz
    · rw [e]; exact h.1
    · exact Nat.lt_trans h.1 ((List.pairwise_cons.mp ih).1 z hz)
theorem L300_srt : ltNext L300 = true := by decide +kernel
theorem L300_small : L300.all (fun t => decide (t.1 < 1000) && decide (t.2.1 < 1000) && decide (t.2.2 < 1000)) = true := by decide +kernel
theorem range_filter (K : Nat) : ∀ N, K ≤ N → (List.range N).filter (fun k => decide (k < K)) = List.range K
  | 0, h => by simp [show K = 0 by omega]
  | N + 1, h => by
    rw [List.range_succ, List.filter_append]
    by_cases e : K = N + 1
    · subst e
      rw [List.range_succ, List.filter_eq_self.mpr (fun a ha => by simp at ha ⊢; omega)]
      simp
    · rw [range_filter K N (by omega)]
      simp; omega
theorem srcN_filter {M m n : Nat} (hM : M ≤ 300) (hm : 0 < m) : (srcN 300 m n).filter (fun t => decide (t.1 ≤ M)) = srcN M m n := by
  unfold srcN
  split
  · rw [List.filter_map]
    have hs : 0 < m * m + n * n := by
      have := Nat.mul_le_mul hm hm
      omega
    have e : ((fun t : Nat × Nat × Nat => decide (t.1 ≤ M)) ∘ fun k => made m n (k + 1)) = fun k => decide (k < M / (m * m + n * n)) := by
      funext k
      show decide ((k + 1) * (m * m + n * n) ≤ M) = _
      exact decide_eq_decide.mpr (Nat.le_div_iff_mul_le hs).symm
    rw [e, range_filter]
    exact Nat.div_le_div_right hM
  · rfl
theorem srcAll_filter {M : Nat} (hM : M ≤ 300) : (srcAll 300).filter (fun t => decide (t.1 ≤ M)) = srcAll M := by
  unfold srcAll srcM
  rw [List.filter_flatMap]
  congr 1
  funext i
  rw [List.filter_flatMap]
  congr 1
  funext j
  exact srcN_filter hM (by omega)
theorem WT_le : ∀ N, ∀ t ∈ WT N, t.1 ≤ N
  | 0, t, h => by simp [WT] at h
  | N + 1, t, h => by
    unfold WT at h
    rcases List.mem_append.mp h with h | h
    · exact Nat.le_succ_of_le (WT_le N t h)
    · obtain ⟨p, _, rfl⟩ := List.mem_map.mp h
      exact Nat.le_refl _
theorem WT_filter (M : Nat) : ∀ N, M ≤ N → (WT N).filter (fun t => decide (t.1 ≤ M)) = WT M
  | 0, h => by simp [WT, show M = 0 by omega]
  | N + 1, h => by
    by_cases e : M = N + 1
    · subst e
      exact List.filter_eq_self.mpr fun t ht => decide_eq_true (WT_le _ t ht)
    · have ih := WT_filter M N (by omega)
      have e2 : WT (N + 1) = WT N ++ (wcTo (N + 1) (N + 1)).map fun p => (N + 1, p.1, p.2) := rfl
      rw [e2, List.filter_append, ih]
      have : ((wcTo (N + 1) (N + 1)).map fun p => (N + 1, p.1, p.2)).filter (fun t => decide (t.1 ≤ M)) = [] := by
        rw [List.filter_eq_nil_iff]
        intro t ht
        obtain ⟨p, _, rfl⟩ := List.mem_map.mp ht
        simp only [decide_eq_true_eq]
        omega
      rw [this, List.append_nil]
theorem WT_in {M : Nat} (hM : M ≤ 300) {t : Nat × Nat × Nat} (h : t ∈ WT M) : t ∈ L300 := by
  rw [← WT_filter M 300 hM, WT300] at h
  exact (List.mem_filter.mp h).1
theorem WT_perm {M : Nat} (hM : M ≤ 300) : (srcAll M).Perm (WT M) := by
  rw [← WT_filter M 300 hM, WT300, ← srcAll_filter hM]
  exact (List.isPerm_iff.mp src_perm).filter _
theorem WT_srt {M : Nat} (hM : M ≤ 300) : (WT M).Pairwise fun x y => code x < code y := by
  rw [← WT_filter M 300 hM, WT300]
  exact (ltNext_pw L300_srt).filter _
theorem L300_lt {t : Nat × Nat × Nat} (h : t ∈ L300) : t.1 < 1000 ∧ t.2.1 < 1000 ∧ t.2.2 < 1000 := by
  have := List.all_eq_true.mp L300_small t h
  simp only [Bool.and_eq_true, decide_eq_true_eq, and_assoc] at this
  exact this
theorem code_inj {x y : Nat × Nat × Nat} (hx : x ∈ L300) (hy : y ∈ L300) (h : code x = code y) : x = y := by
  have a := L300_lt hx
  have b := L300_lt hy
  unfold code at h
  obtain ⟨x1, x2, x3⟩ := x
  obtain ⟨y1, y2, y3⟩ := y
  dsimp only at a b h
  have e1 : x1 = y1 := by omega
  have e2 : x2 = y2 := by omega
  have e3 : x3 = y3 := by omega
  rw [e1, e2, e3]
/-- what is sorted of all sources is all walks -/
theorem sorted_src {M : Nat} (hM : M ≤ 300) {us : List (Nat × Nat × Nat)} (hp : us.Perm (srcAll M)) (hs : us.Pairwise fun x y => code x ≤ code y) : us = WT M := by
  have hp2 := hp.trans (WT_perm hM)
  refine List.Perm.eq_of_pairwise (le := fun x y => code x ≤ code y) (fun a b ha hb h1 h2 => ?_) hs ((WT_srt hM).imp fun h => Nat.le_of_lt h) hp2
  exact code_inj (WT_in hM (hp2.mem_iff.mp ha)) (WT_in hM hb) (Nat.le_antisymm h1 h2)
theorem WT_ok {M : Nat} (hM : M ≤ 300) {t : Nat × Nat × Nat} (h : t ∈ WT M) : okS t = true ∧ t.1 ≤ 300 := ⟨List.all_eq_true.mp walks_all t (WT_in hM h), Nat.le_trans (WT_le M t h) hM⟩
theorem WT_len {M : Nat} (hM : M ≤ 300) : (WT M).length ≤ 209 := by
  rw [← WT_filter M 300 hM, WT300]
  exact Nat.le_trans (List.length_filter_le _ _) (by decide)
theorem WT4 : WT 4 = [] := by decide +kernel
theorem WT5 : WT 5 = [(5, 3, 4)] := by decide +kernel
theorem made_ok {m n k j : Nat} (hn : n < 40) (hj : j < 12) (hk : k < 3) (hm : m = n + 1 + 1 + 2 * j) (h : (made m (n + 1) (k + 1)).1 ≤ 10000) : okS (made m (n + 1) (k + 1)) = true := by
  have h0 := List.all_eq_true.mp (List.all_eq_true.mp (List.all_eq_true.mp made_all n (List.mem_range.mpr hn)) j (List.mem_range.mpr hj)) k (List.mem_range.mpr hk)
  dsimp only at h0
  rw [← hm, if_pos h] at h0
  exact h0
end Sq

namespace TS
section
variable {α : Type} (key : α → Nat)

def kv (xs : Array α) (i : Nat) : Nat := match xs[i]? with | some p => key p | none => 0
theorem kv_at {xs : Array α} {i : Nat} (h : i < xs.size) : kv key xs i = key xs[i] := by
  unfold kv; rw [getElem?_pos xs i h]

def Srt (xs : Array α) (l r : Nat) : Prop := ∀ i j, l ≤ i → i ≤ j → j < r → kv key xs i ≤ kv key xs j

structure Inv (a b out : Array α) (ia ib : Nat) : Prop where
  la : ia ≤ a.size
  lb : ib ≤ b.size
  perm : out.toList.Perm (a.toList.take ia ++ b.toList.take ib)
  srt : out.toList.Pairwise fun x y => key x ≤ key y
  ba : ∀ x ∈ out.toList, ∀ i, ia ≤ i → i < a.size → key x ≤ kv key a i
  bb : ∀ x ∈ out.toList, ∀ j, ib ≤ j → j < b.size → key x ≤ kv key b j

variable {key}

theorem Inv.flip {a b out : Array α} {ia ib : Nat} (h : Inv key a b out ia ib) : Inv key b a out ib ia :=
  ⟨h.lb, h.la, h.perm.trans List.perm_append_comm, h.srt, h.bb, h.ba⟩

theorem take_more {l : List α} {i : Nat} (h : i < l.length) : l.take (i + 1) = l.take i ++ [l[i]] := by simp

theorem Inv.more {a b out : Array α} {ia ib : Nat} (h : Inv key a b out ia ib) (hi : ia < a.size) (hs : Srt key a 0 a.size)
    (hb : ∀ j, ib ≤ j → j < b.size → kv key a ia ≤ kv key b j) : Inv key a b (out.push a[ia]) (ia + 1) ib := by
  have ek := kv_at key hi
  refine ⟨hi, h.lb, ?_, ?_, ?_, ?_⟩
  · rw [Array.toList_push, take_more (by simpa using hi)]
    have e : a.toList[ia]'(by simpa using hi) = a[ia] := by simp
    rw [e]
    refine (h.perm.append_right _).trans ?_
    rw [List.append_assoc, List.append_assoc]
    exact List.Perm.append_left _ List.perm_append_comm
  · rw [Array.toList_push, List.pairwise_append]
    refine ⟨h.srt, by simp, fun x hx y hy => ?_⟩
    rw [List.mem_singleton] at hy
    subst hy
    rw [← ek]; exact h.ba x hx ia (Nat.le_refl _) hi
  · intro x hx i h1 h2
    rw [Array.toList_push, List.mem_append, List.mem_singleton] at hx
    rcases hx with hx | rfl
    · exact h.ba x hx i (by omega) h2
    · rw [← ek]; exact hs ia i (by omega) (by omega) h2
  · intro x hx j h1 h2
    rw [Array.toList_push, List.mem_append, List.mem_singleton] at hx
    rcases hx with hx | rfl
    · exact h.bb x hx j h1 h2
    · rw [← ek]; exact hb j h1 h2

theorem ext_more {a : Array α} {i k : Nat} (h : i + k < a.size) : a.extract i (i + (k + 1)) = (a.extract i (i + k)).push a[i + k] := by
  apply Array.ext
  · simp; omega
  · intro j h1 h2
    rw [Array.getElem_push]
    simp at h1 h2 ⊢
    intro h3
    congr 1; omega

theorem ext_nil (a : Array α) (i : Nat) : a.extract i i = #[] := by
  apply Array.ext
  · simp; omega
  · intro j h1 h2
    simp at h2

theorem Inv.many {a b out : Array α} {ia ib : Nat} (h : Inv key a b out ia ib) (hs : Srt key a 0 a.size) : ∀ k, ia + k ≤ a.size →
    (∀ i j, ia ≤ i → i < ia + k → ib ≤ j → j < b.size → kv key a i ≤ kv key b j) → Inv key a b (out ++ a.extract ia (ia + k)) (ia + k) ib
  | 0, _, _ => by simpa [ext_nil] using h
  | k + 1, hk, hb => by
    have ih := Inv.many h hs k (by omega) fun i j h1 h2 => hb i j h1 (by omega)
    have := ih.more (by omega) hs fun j h1 h2 => hb _ j (by omega) (by omega) h1 h2
    rw [ext_more (by omega), Array.append_push]
    exact this

/-- all is told -/
structure Whole (key : α → Nat) (a b out : Array α) : Prop where
  perm : out.toList.Perm (a.toList ++ b.toList)
  srt : out.toList.Pairwise fun x y => key x ≤ key y

theorem Inv.whole {a b out : Array α} (h : Inv key a b out a.size b.size) : Whole key a b out := by
  refine ⟨?_, h.srt⟩
  have := h.perm
  rwa [← Array.length_toList, ← Array.length_toList, List.take_length, List.take_length] at this

theorem Inv.endA {a b out : Array α} {ia : Nat} (h : Inv key a b out ia b.size) (hs : Srt key a 0 a.size) :
    Whole key a b (out ++ a.extract ia a.size ++ b.extract b.size b.size) := by
  have hl := h.la
  have := h.many hs (a.size - ia) (by omega) fun i j h1 h2 h3 h4 => by omega
  rw [show ia + (a.size - ia) = a.size by omega] at this
  simpa using this.whole

theorem Inv.endB {a b out : Array α} {ib : Nat} (h : Inv key a b out a.size ib) (hs : Srt key b 0 b.size) :
    Whole key a b (out ++ a.extract a.size a.size ++ b.extract ib b.size) := by
  have hl := h.lb
  have := h.flip.many hs (b.size - ib) (by omega) fun i j h1 h2 h3 h4 => by omega
  rw [show ib + (b.size - ib) = b.size by omega] at this
  simpa using this.flip.whole

/-- the last of a is no less than any of b -/
theorem Inv.lastA {a b out : Array α} {ia ib : Nat} (h : Inv key a b out ia ib) (hs : Srt key a 0 a.size) (hs' : Srt key b 0 b.size) (e : ia + 1 = a.size)
    (hl : ∀ j, j < b.size → kv key b j ≤ kv key a (a.size - 1)) : Whole key a b (out ++ b.extract ib b.size ++ a.extract ia a.size) := by
  have hlb := h.lb
  have h1 := h.flip.many hs' (b.size - ib) (by omega) fun i j h1 h2 h3 h4 => by
    have := hl i (by omega)
    rw [show j = a.size - 1 by omega]; exact this
  rw [show ib + (b.size - ib) = b.size by omega] at h1
  have h2 := h1.flip.many hs (a.size - ia) (by omega) fun i j h1 h2 h3 h4 => by omega
  rw [show ia + (a.size - ia) = a.size by omega] at h2
  exact h2.whole

variable (key)
structure InvH (a b out : Array α) (na nb : Nat) : Prop where
  la : na ≤ a.size
  lb : nb ≤ b.size
  perm : out.toList.Perm (a.toList.drop na ++ b.toList.drop nb)
  srt : out.toList.Pairwise fun x y => key y ≤ key x
  ba : ∀ x ∈ out.toList, ∀ i, i < na → kv key a i ≤ key x
  bb : ∀ x ∈ out.toList, ∀ j, j < nb → kv key b j ≤ key x
variable {key}

theorem InvH.flip {a b out : Array α} {na nb : Nat} (h : InvH key a b out na nb) : InvH key b a out nb na :=
  ⟨h.lb, h.la, h.perm.trans List.perm_append_comm, h.srt, h.bb, h.ba⟩

theorem InvH.more {a b out : Array α} {na nb : Nat} (h : InvH key a b out (na + 1) nb) (hi : na < a.size) (hs : Srt key a 0 a.size)
    (hb : ∀ j, j < nb → kv key b j ≤ kv key a na) : InvH key a b (out.push a[na]) na nb := by
  have ek := kv_at key hi
  refine ⟨by omega, h.lb, ?_, ?_, ?_, ?_⟩
  · rw [Array.toList_push, List.drop_eq_getElem_cons (by simpa using hi)]
    have e : a.toList[na]'(by simpa using hi) = a[na] := by simp
    rw [e]
    refine (h.perm.append_right _).trans ?_
    exact List.perm_append_comm
  · rw [Array.toList_push, List.pairwise_append]
    refine ⟨h.srt, by simp, fun x hx y hy => ?_⟩
    rw [List.mem_singleton] at hy
    subst hy
    rw [← ek]; exact h.ba x hx na (by omega)
  · intro x hx i h1
    rw [Array.toList_push, List.mem_append, List.mem_singleton] at hx
    rcases hx with hx | rfl
    · exact h.ba x hx i (by omega)
    · rw [← ek]; exact hs i na (by omega) (by omega) hi
  · intro x hx j h1
    rw [Array.toList_push, List.mem_append, List.mem_singleton] at hx
    rcases hx with hx | rfl
    · exact h.bb x hx j h1
    · rw [← ek]; exact hb j h1

theorem ext_down {a : Array α} {i n : Nat} (h : i < n) (hn : n ≤ a.size) : (a.extract i n).reverse = (a.extract (i + 1) n).reverse.push (a[i]'(by omega)) := by
  apply Array.ext
  · simp; omega
  · intro j h1 h2
    simp at h1 h2 ⊢
    rw [Array.getElem_push]
    split
    · rename_i h3
      simp at h3 ⊢
      congr 1; omega
    · rename_i h3
      simp at h3
      congr 1; omega

theorem InvH.many {a b out : Array α} {na nb : Nat} (h : InvH key a b out na nb) (hs : Srt key a 0 a.size) : ∀ k, k ≤ na →
    (∀ i j, na - k ≤ i → i < na → j < nb → kv key b j ≤ kv key a i) → InvH key a b (out ++ (a.extract (na - k) na).reverse) (na - k) nb
  | 0, _, _ => by simpa [ext_nil] using h
  | k + 1, hk, hb => by
    have hl := h.la
    have ih := InvH.many h hs k (by omega) fun i j h1 h2 => hb i j (by omega) h2
    rw [show na - k = (na - (k + 1)) + 1 by omega] at ih
    have := ih.more (by omega) hs fun j h1 => hb _ j (by omega) (by omega) h1
    rw [ext_down (by omega) (by omega), Array.append_push]
    exact this

theorem InvH.manyTo {a b out : Array α} {na nb k : Nat} (h : InvH key a b out na nb) (hs : Srt key a 0 a.size) (hk : k ≤ na)
    (hb : ∀ i j, k ≤ i → i < na → j < nb → kv key b j ≤ kv key a i) : InvH key a b (out ++ (a.extract k na).reverse) k nb := by
  have := h.many hs (na - k) (by omega) fun i j h1 h2 => hb i j (by omega) h2
  rwa [show na - (na - k) = k by omega] at this

theorem InvH.whole {a b out : Array α} (h : InvH key a b out 0 0) : Whole key a b out.reverse := by
  refine ⟨?_, ?_⟩
  · rw [Array.toList_reverse]
    refine (List.reverse_perm _).trans ?_
    simpa using h.perm
  · rw [Array.toList_reverse, List.pairwise_reverse]
    exact h.srt

theorem InvH.endB {a b out : Array α} {nb : Nat} (h : InvH key a b out 0 nb) (hs : Srt key b 0 b.size) :
    Whole key a b (a.extract 0 0 ++ b.extract 0 nb ++ out.reverse) := by
  have := (h.flip.manyTo hs (Nat.zero_le nb) fun i j h1 h2 h3 => by omega).flip.whole
  simpa using this

theorem InvH.endA {a b out : Array α} {na : Nat} (h : InvH key a b out na 0) (hs : Srt key a 0 a.size) :
    Whole key a b (a.extract 0 na ++ b.extract 0 0 ++ out.reverse) := by
  have := (h.manyTo hs (Nat.zero_le na) fun i j h1 h2 h3 => by omega).whole
  simpa using this

theorem InvH.firstB {a b out : Array α} {na : Nat} (h : InvH key a b out na 1) (hs : Srt key a 0 a.size) (hs' : Srt key b 0 b.size)
    (hl : ∀ i, i < a.size → kv key b 0 ≤ kv key a i) : Whole key a b (b.extract 0 1 ++ a.extract 0 na ++ out.reverse) := by
  have hla := h.la
  have h1 := h.manyTo hs (Nat.zero_le na) fun i j h1 h2 h3 => by rw [show j = 0 by omega]; exact hl i (by omega)
  have := (h1.flip.manyTo hs' (Nat.zero_le 1) fun i j h1 h2 h3 => by omega).flip.whole
  simpa using this
end
end TS

namespace TS
section
variable {α : Type} {key : α → Nat}

def back (sa : Nat) (l : List α) (j : Nat) (arr : Array α) : Array α := (l.zipIdx j).foldl (fun a (p, j) => a.setIfInBounds (sa + j) p) arr

theorem back_at (sa : Nat) : ∀ (l : List α) (j : Nat) (arr : Array α), sa + j + l.length ≤ arr.size →
    (back sa l j arr).size = arr.size ∧ ∀ k, (back sa l j arr)[k]? = if sa + j ≤ k ∧ k < sa + j + l.length then l[k - (sa + j)]? else arr[k]?
  | [], j, arr, h => by
    refine ⟨rfl, fun k => ?_⟩
    rw [if_neg (by simp only [List.length_nil]; omega)]; rfl
  | p :: l, j, arr, h => by
    have e : back sa (p :: l) j arr = back sa l (j + 1) (arr.setIfInBounds (sa + j) p) := rfl
    simp only [List.length_cons] at h
    have ih := back_at sa l (j + 1) (arr.setIfInBounds (sa + j) p) (by simp; omega)
    rw [e]
    refine ⟨by rw [ih.1]; simp, fun k => ?_⟩
    rw [ih.2]
    simp only [List.length_cons]
    by_cases h1 : sa + (j + 1) ≤ k ∧ k < sa + (j + 1) + l.length
    · rw [if_pos h1, if_pos (by omega), show k - (sa + j) = (k - (sa + (j + 1))) + 1 by omega, List.getElem?_cons_succ]
    · rw [if_neg h1, Array.getElem?_setIfInBounds]
      by_cases h2 : sa + j = k
      · rw [if_pos h2, if_pos (by omega), if_pos (by omega), show k - (sa + j) = 0 by omega]; rfl
      · rw [if_neg h2, if_neg (by omega)]

theorem extract_list (arr : Array α) (i j : Nat) : (arr.extract i j).toList = (arr.toList.drop i).take (j - i) := by simp

theorem back_list {sa : Nat} {l : List α} {arr : Array α} (h : sa + l.length ≤ arr.size) :
    (back sa l 0 arr).toList = arr.toList.take sa ++ (l ++ arr.toList.drop (sa + l.length)) := by
  have hb := back_at sa l 0 arr (by omega)
  apply List.ext_getElem?
  intro k
  have e := hb.2 k
  rw [← Array.getElem?_toList, ← Array.getElem?_toList] at e
  rw [e, List.getElem?_append, List.getElem?_append]
  simp only [List.length_take, Array.length_toList, List.getElem?_take, List.getElem?_drop, Nat.add_zero]
  repeat' split
  all_goals first | rfl | (exfalso; omega) | (congr 1; omega)

theorem split4 {L : List α} {i j k : Nat} (h1 : i ≤ j) (h2 : j ≤ k) : L = L.take i ++ ((L.drop i).take (j - i) ++ ((L.drop j).take (k - j) ++ L.drop k)) := by
  have e1 : L.drop k = (L.drop j).drop (k - j) := by rw [List.drop_drop]; congr 1; omega
  have e2 : L.drop j = (L.drop i).drop (j - i) := by rw [List.drop_drop]; congr 1; omega
  rw [e1, List.take_append_drop]
  conv => rhs; rw [e2]
  rw [List.take_append_drop, List.take_append_drop]

theorem back_perm {sa sb e : Nat} {m arr : Array α} (h1 : sa ≤ sb) (h2 : sb ≤ e) (he : e ≤ arr.size) (W : Whole key (arr.extract sa sb) (arr.extract sb e) m) :
    sa + m.size = e ∧ (back sa m.toList 0 arr).Perm arr := by
  have hl := W.perm.length_eq
  rw [List.length_append, extract_list, extract_list] at hl
  simp only [Array.length_toList, List.length_take, List.length_drop] at hl
  have hs : sa + m.size = e := by omega
  refine ⟨hs, Array.perm_iff_toList_perm.mpr ?_⟩
  rw [back_list (by simp; omega)]
  conv => rhs; rw [split4 (L := arr.toList) h1 h2]
  refine List.Perm.append_left _ ?_
  rw [← List.append_assoc ((arr.toList.drop sa).take _)]
  have hp := W.perm
  rw [extract_list, extract_list] at hp
  rw [Array.length_toList, hs]
  exact hp.append_right _

theorem kv_back {sa : Nat} {m arr : Array α} (h : sa + m.size ≤ arr.size) (k : Nat) :
    kv key (back sa m.toList 0 arr) k = if sa ≤ k ∧ k < sa + m.size then kv key m (k - sa) else kv key arr k := by
  have hb := (back_at sa m.toList 0 arr (by simpa using h)).2 k
  unfold kv
  rw [hb]
  simp only [Nat.add_zero, Array.length_toList]
  by_cases c : sa ≤ k ∧ k < sa + m.size
  · rw [if_pos c, if_pos c, Array.getElem?_toList]
  · rw [if_neg c, if_neg c]

theorem kv_extract {arr : Array α} {i j k : Nat} (h : i + k < j) (hj : j ≤ arr.size) : kv key (arr.extract i j) k = kv key arr (i + k) := by
  unfold kv
  rw [Array.getElem?_extract, if_pos (by omega)]

theorem Srt.extract {arr : Array α} {i j : Nat} (h : Srt key arr i j) (hj : j ≤ arr.size) : Srt key (arr.extract i j) 0 (arr.extract i j).size := by
  intro p q h1 h2 h3
  rw [Array.size_extract] at h3
  rw [kv_extract (by omega) hj, kv_extract (by omega) hj]
  exact h _ _ (by omega) (by omega) (by omega)

theorem Whole.mem {a b m : Array α} (W : Whole key a b m) {k : Nat} (hk : k < m.size) : (∃ i, i < a.size ∧ kv key m k = kv key a i) ∨ ∃ i, i < b.size ∧ kv key m k = kv key b i := by
  have hm : m[k] ∈ a.toList ++ b.toList := W.perm.mem_iff.mp (by simp)
  rw [kv_at key hk]
  rcases List.mem_append.mp hm with h | h
  · obtain ⟨i, hi, e⟩ := Array.mem_iff_getElem.mp (Array.mem_toList_iff.mp h)
    exact .inl ⟨i, hi, by rw [kv_at key hi, e]⟩
  · obtain ⟨i, hi, e⟩ := Array.mem_iff_getElem.mp (Array.mem_toList_iff.mp h)
    exact .inr ⟨i, hi, by rw [kv_at key hi, e]⟩

theorem Whole.sorted {a b m : Array α} (W : Whole key a b m) : Srt key m 0 m.size := by
  intro i j _ hij hj
  rw [kv_at key hj, kv_at key (by omega)]
  by_cases e : i = j
  · subst e; exact Nat.le_refl _
  · have := (List.pairwise_iff_getElem.mp W.srt) i j (by simpa using (by omega : i < m.size)) (by simpa using hj) (by omega)
    simpa using this

/-- what a merging leaves: sa0 .. sb .. e0, of it sa .. e was merged -/
theorem back_srt {sa0 sa sb e e0 : Nat} {m arr : Array α} (h0 : sa0 ≤ sa) (h1 : sa < sb) (h2 : sb < e) (h3 : e ≤ e0) (he : e0 ≤ arr.size)
    (W : Whole key (arr.extract sa sb) (arr.extract sb e) m) (s1 : Srt key arr sa0 sb) (s2 : Srt key arr sb e0)
    (lo : ∀ i, sa0 ≤ i → i < sa → kv key arr i ≤ kv key arr sb) (hi : ∀ j, e ≤ j → j < e0 → kv key arr (sb - 1) ≤ kv key arr j) :
    Srt key (back sa m.toList 0 arr) sa0 e0 := by
  have hp := back_perm (Nat.le_of_lt h1) (Nat.le_of_lt h2) (by omega) W
  have hsz := hp.1
  have hm : ∀ k, sa ≤ k → k < e → ∃ t, sa ≤ t ∧ t < e ∧ kv key m (k - sa) = kv key arr t := by
    intro k a1 a2
    rcases W.mem (k := k - sa) (by omega) with ⟨i, hi, ei⟩ | ⟨i, hi, ei⟩
    · rw [Array.size_extract] at hi
      rw [kv_extract (by omega) (by omega)] at ei
      exact ⟨sa + i, by omega, by omega, ei⟩
    · rw [Array.size_extract] at hi
      rw [kv_extract (by omega) (by omega)] at ei
      exact ⟨sb + i, by omega, by omega, ei⟩
  intro i j a1 a2 a3
  rw [kv_back (by omega), kv_back (by omega)]
  by_cases ci : i < sa
  · rw [if_neg (by omega)]
    have l1 := lo i a1 ci
    by_cases cj : j < sa
    · rw [if_neg (by omega)]; exact s1 i j a1 a2 (by omega)
    · by_cases cj2 : j < e
      · rw [if_pos (by omega)]
        obtain ⟨t, t1, t2, t3⟩ := hm j (by omega) cj2
        rw [t3]
        by_cases ct : t < sb
        · exact s1 i t a1 (by omega) ct
        · exact Nat.le_trans l1 (s2 sb t (by omega) (by omega) (by omega))
      · rw [if_neg (by omega)]
        exact Nat.le_trans l1 (s2 sb j (by omega) (by omega) a3)
  · by_cases ci2 : i < e
    · rw [if_pos (by omega)]
      by_cases cj2 : j < e
      · rw [if_pos (by omega)]
        exact W.sorted _ _ (by omega) (by omega) (by omega)
      · rw [if_neg (by omega)]
        obtain ⟨t, t1, t2, t3⟩ := hm i (by omega) ci2
        rw [t3]
        by_cases ct : t < sb
        · exact Nat.le_trans (s1 t (sb - 1) (by omega) (by omega) (by omega)) (hi j (by omega) a3)
        · exact s2 t j (by omega) (by omega) a3
    · rw [if_neg (by omega), if_neg (by omega)]
      exact s2 i j (by omega) a2 a3

variable (key)
def Runs (arr : Array α) : Nat → List (Nat × Nat × Nat) → Nat → Prop
  | lo, [], hi => lo = hi
  | lo, (s, n, _) :: r, hi => s = lo ∧ 1 ≤ n ∧ Srt key arr s (s + n) ∧ Runs arr (s + n) r hi
variable {key}

theorem Runs.le {arr : Array α} : ∀ {lo : Nat} {l : List (Nat × Nat × Nat)} {hi : Nat}, Runs key arr lo l hi → lo + l.length ≤ hi
  | lo, [], hi, h => by have : lo = hi := h; simp; omega
  | lo, (s, n, p) :: r, hi, h => by
    obtain ⟨rfl, h1, _, h2⟩ := h
    have := Runs.le h2
    simp only [List.length_cons]; omega

theorem Runs.same {arr arr' : Array α} : ∀ {lo : Nat} {l : List (Nat × Nat × Nat)} {hi : Nat}, (∀ i, lo ≤ i → i < hi → kv key arr' i = kv key arr i) → Runs key arr lo l hi → Runs key arr' lo l hi
  | lo, [], hi, _, h => h
  | lo, (s, n, p) :: r, hi, e, h => by
    obtain ⟨rfl, h1, h2, h3⟩ := h
    have := Runs.le h3
    refine ⟨rfl, h1, fun i j a b c => ?_, Runs.same (fun i a b => e i (by omega) b) h3⟩
    rw [e i (by omega) (by omega), e j (by omega) (by omega)]
    exact h2 i j a b c

theorem Runs.app {arr : Array α} {l2 : List (Nat × Nat × Nat)} {hi : Nat} : ∀ {l1 : List (Nat × Nat × Nat)} {lo : Nat}, Runs key arr lo (l1 ++ l2) hi ↔ ∃ mid, Runs key arr lo l1 mid ∧ Runs key arr mid l2 hi
  | [], lo => ⟨fun h => ⟨lo, rfl, h⟩, fun ⟨m, h1, h2⟩ => by have : lo = m := h1; subst this; exact h2⟩
  | (s, n, p) :: r, lo => by
    constructor
    · rintro ⟨rfl, h1, h2, h3⟩
      obtain ⟨m, a, b⟩ := Runs.app.mp h3
      exact ⟨m, ⟨rfl, h1, h2, a⟩, b⟩
    · rintro ⟨m, ⟨rfl, h1, h2, a⟩, b⟩
      exact ⟨rfl, h1, h2, Runs.app.mpr ⟨m, a, b⟩⟩

/-- two neighbours made one -/
theorem Runs.join {arr arr' : Array α} {l1 l2 : List (Nat × Nat × Nat)} {sa na pw sb nb q hi : Nat} (h : Runs key arr 0 (l1 ++ (sa, na, pw) :: (sb, nb, q) :: l2) hi)
    (hs : Srt key arr' sa (sa + (na + nb))) (hk : ∀ i, i < sa ∨ sa + (na + nb) ≤ i → kv key arr' i = kv key arr i) : Runs key arr' 0 (l1 ++ (sa, na + nb, pw) :: l2) hi := by
  obtain ⟨m, h1, e1, n1, s1, e2, n2, s2, h2⟩ := Runs.app.mp h
  have l := h2.le
  subst e1; subst e2
  refine Runs.app.mpr ⟨sa, h1.same fun i a b => hk i (.inl b), rfl, by omega, hs, ?_⟩
  rw [← Nat.add_assoc]
  exact h2.same fun i a b => hk i (.inr (by omega))
end
end TS

set_option maxRecDepth 100000
namespace TS
open PySem PyProof.Rows

def gallop' : Bool → Keyed → Array Keyed → Nat → Nat → Nat → StateT SortSt Sem (Option Nat) := sortPriv% PySem.Builtin.gallop
def mergeLo' : Array Keyed → Array Keyed → StateT SortSt Sem (Array Keyed) := sortPriv% PySem.Builtin.mergeLo
def mergeHi' : Array Keyed → Array Keyed → StateT SortSt Sem (Array Keyed) := sortPriv% PySem.Builtin.mergeHi

section
variable {M : Model} {A : Around} {E : Value → Shared → Prop} {s : Shared} {key : Keyed → Nat} {S0 : List Keyed} {kd : SortKind}

/-- a comparison of two of these tells their keys' order -/
def LtOk (M : Model) (A : Around) (E : Value → Shared → Prop) (s : Shared) (kd : SortKind) (S0 : List Keyed) (key : Keyed → Nat) : Prop :=
  ∀ (x y : Keyed) (st : SortSt) (Q : Option Bool → SortSt → Prop), x ∈ S0 → y ∈ S0 → kindOf st = kd → Q (some (decide (key x < key y))) st → wpS M A E s (lt' x y) Q st

def Sub (S0 : List Keyed) (arr : Array Keyed) : Prop := ∀ i (h : i < arr.size), arr[i] ∈ S0

theorem wp_elem {arr : Array Keyed} {i : Nat} {Q : Keyed → SortSt → Prop} {st : SortSt} (h : i < arr.size) (q : Q arr[i] st) : wpS M A E s (elem' arr i) Q st := by
  rw [elem'_eq, getElem?_pos arr i h]; exact wpS_pure q

def bey (left : Bool) (p : Keyed) (arr : Array Keyed) (base i : Nat) : StateT SortSt Sem (Option Bool) :=
  elem' arr (base + i) >>= fun x => if left then lt' x p else lt' p x >>= fun c => pure (c.map (!·))

def beyB (key : Keyed → Nat) (left : Bool) (p : Keyed) (arr : Array Keyed) (base i : Nat) : Bool :=
  if left then decide (kv key arr (base + i) < key p) else !decide (key p < kv key arr (base + i))

theorem wp_bey (hL : LtOk M A E s kd S0 key) {left : Bool} {p : Keyed} (hp : p ∈ S0) {arr : Array Keyed} (hs : Sub S0 arr) {base i : Nat} (hi : base + i < arr.size) {st : SortSt} (hk : kindOf st = kd) {Q : Option Bool → SortSt → Prop}
    (q : Q (some (beyB key left p arr base i)) st) : wpS M A E s (bey left p arr base i) Q st := by
  unfold bey
  refine wpS_bind (wp_elem hi ?_)
  have ek := kv_at key hi
  unfold beyB at q
  rw [ek] at q
  cases left
  · rw [if_neg (by decide)] at q ⊢
    exact wpS_bind (hL _ _ _ _ hp (hs _ hi) hk (wpS_pure q))
  · rw [if_pos rfl] at q ⊢
    exact hL _ _ _ _ (hs _ hi) hp hk q

theorem wp_gallop (hL : LtOk M A E s kd S0 key) {left : Bool} {p : Keyed} (hp : p ∈ S0) {arr : Array Keyed} (hs : Sub S0 arr) {base n hint : Nat} (hn : base + n ≤ arr.size) (hh : hint < n) {st : SortSt} (hk : kindOf st = kd) {Q : Option Nat → SortSt → Prop}
    (mono : ∀ i j, i ≤ j → j < n → beyB key left p arr base j = true → beyB key left p arr base i = true)
    (q : ∀ k, k ≤ n → (∀ i, i < k → beyB key left p arr base i = true) → (∀ i, k ≤ i → i < n → beyB key left p arr base i = false) → Q (some k) st) : wpS M A E s (gallop' left p arr base n hint) Q st := by
  have hb : ∀ i, i < n → ∀ Q : Option Bool → SortSt → Prop, Q (some (beyB key left p arr base i)) st → wpS M A E s (bey left p arr base i) Q st := fun i hi Q q => wp_bey hL hp hs (by omega) hk q
  generalize beyB key left p arr base = bt at mono q hb
  refine wpS_bind ?_
  refine hb hint hh _ ?_
  dsimp only
  cases hr : bt hint
  · rw [if_neg (by decide)]
    refine wpS_bind (wpS_mono (wpS_forRange (I := fun x c st' => st = st' ∧ ∃ l o, c = (none, l, o) ∧ l < o ∧ l ≤ hint ∧ x + 1 ≤ o ∧ bt (hint - l) = false)
      (Q := fun c st' => st = st' ∧ ∃ l o, c = (none, l, o) ∧ l < o ∧ l ≤ hint ∧ bt (hint - l) = false ∧ (o ≤ hint → bt (hint - o) = true)) ?gs ?ge ?gi) ?gp)
    case gi => exact ⟨rfl, 0, 1, rfl, by omega, by omega, by omega, hr⟩
    case ge =>
      rintro c st' ⟨rfl, l, o, rfl, z1, z2, z3, z4⟩
      exact ⟨rfl, l, o, rfl, z1, z2, z4, fun z => by omega⟩
    case gs =>
      rintro x c st' _ hx ⟨rfl, l, o, rfl, z1, z2, z3, z4⟩
      dsimp only
      by_cases hge : o ≥ hint + 1
      · rw [if_pos hge]
        exact wpS_pure ⟨rfl, l, o, rfl, z1, z2, z4, fun z => by omega⟩
      · rw [if_neg hge]
        refine wpS_bind (hb _ (by omega) _ ?_)
        dsimp only
        cases hm : bt (hint - o)
        · rw [if_neg (by decide)]
          exact wpS_pure ⟨rfl, o, _, rfl, by omega, by omega, by omega, hm⟩
        · rw [if_pos rfl]
          exact wpS_pure ⟨rfl, l, o, rfl, z1, z2, z4, fun _ => hm⟩
    rintro c st' ⟨rfl, l, o, rfl, y1, y2, y3, y4⟩
    dsimp only
    refine wpS_bind (wpS_mono (wpS_forRange (I := fun x c st' => st = st' ∧ ∃ l h, c = (none, l, h) ∧ l ≤ h ∧ h ≤ n ∧ h - l ≤ n - x ∧ (∀ i, i < l → bt i = true) ∧ ∀ i, h ≤ i → i < n → bt i = false)
      (Q := fun c st' => st = st' ∧ ∃ l h, c = (none, l, h) ∧ l = h ∧ h ≤ n ∧ (∀ i, i < l → bt i = true) ∧ ∀ i, h ≤ i → i < n → bt i = false) ?bs ?be ?bi) ?bp)
    case be =>
      rintro c st' ⟨rfl, l, h, rfl, z1, z2, z3, z4, z5⟩
      exact ⟨rfl, l, h, rfl, by omega, z2, z4, z5⟩
    case bi => 
      refine ⟨rfl, _, _, rfl, by omega, by omega, by omega, fun i a => ?_, fun i a b => ?_⟩
      · exact mono i (hint - o) (by omega) (by omega) (y4 (by omega))
      · cases hi : bt i
        · rfl
        · rw [mono _ _ a b hi] at y3; cases y3
    case bp =>
      rintro c st' ⟨rfl, l, h, rfl, z1, z2, z3, z4⟩
      subst z1
      exact wpS_pure (q l z2 z3 z4)
    case bs =>
      rintro x c st' _ hx ⟨rfl, l, h, rfl, z1, z2, z3, z4, z5⟩
      dsimp only
      by_cases hge : l ≥ h
      · rw [if_pos hge]
        exact wpS_pure ⟨rfl, l, h, rfl, by omega, z2, z4, z5⟩
      · rw [if_neg hge]
        refine wpS_bind (hb _ (by omega) _ ?_)
        dsimp only
        cases hm : bt (l + (h - l) / 2)
        · rw [if_neg (by decide)]
          refine wpS_pure ⟨rfl, l, _, rfl, by omega, by omega, by omega, z4, fun i a b => ?_⟩
          cases hi : bt i
          · rfl
          · rw [mono _ _ a b hi] at hm; cases hm
        · rw [if_pos rfl]
          exact wpS_pure ⟨rfl, _, h, rfl, by omega, by omega, by omega, fun i a => mono i _ (by omega) (by omega) hm, z5⟩
  · rw [if_pos rfl]
    refine wpS_bind (wpS_mono (wpS_forRange (I := fun x c st' => st = st' ∧ ∃ l o, c = (none, l, o) ∧ l < o ∧ hint + l < n ∧ x + 1 ≤ o ∧ bt (hint + l) = true)
      (Q := fun c st' => st = st' ∧ ∃ l o, c = (none, l, o) ∧ l < o ∧ hint + l < n ∧ bt (hint + l) = true ∧ (hint + o < n → bt (hint + o) = false)) ?gs2 ?ge2 ?gi2) ?gp2)
    case gi2 => exact ⟨rfl, 0, 1, rfl, by omega, by omega, by omega, hr⟩
    case ge2 =>
      rintro c st' ⟨rfl, l, o, rfl, z1, z2, z3, z4⟩
      exact ⟨rfl, l, o, rfl, z1, z2, z4, fun z => by omega⟩
    case gs2 =>
      rintro x c st' _ hx ⟨rfl, l, o, rfl, z1, z2, z3, z4⟩
      dsimp only
      by_cases hge : o ≥ n - hint
      · rw [if_pos hge]
        exact wpS_pure ⟨rfl, l, o, rfl, z1, z2, z4, fun z => by omega⟩
      · rw [if_neg hge]
        refine wpS_bind (hb _ (by omega) _ ?_)
        dsimp only
        cases hm : bt (hint + o)
        · rw [if_pos (by decide)]
          exact wpS_pure ⟨rfl, l, o, rfl, z1, z2, z4, fun _ => hm⟩
        · rw [if_neg (by decide)]
          exact wpS_pure ⟨rfl, o, _, rfl, by omega, by omega, by omega, hm⟩
    rintro c st' ⟨rfl, l, o, rfl, y1, y2, y3, y4⟩
    dsimp only
    refine wpS_bind (wpS_mono (wpS_forRange (I := fun x c st' => st = st' ∧ ∃ l h, c = (none, l, h) ∧ l ≤ h ∧ h ≤ n ∧ h - l ≤ n - x ∧ (∀ i, i < l → bt i = true) ∧ ∀ i, h ≤ i → i < n → bt i = false)
      (Q := fun c st' => st = st' ∧ ∃ l h, c = (none, l, h) ∧ l = h ∧ h ≤ n ∧ (∀ i, i < l → bt i = true) ∧ ∀ i, h ≤ i → i < n → bt i = false) ?bs2 ?be2 ?bi2) ?bp2)
    case be2 =>
      rintro c st' ⟨rfl, l, h, rfl, z1, z2, z3, z4, z5⟩
      exact ⟨rfl, l, h, rfl, by omega, z2, z4, z5⟩
    case bi2 => 
      refine ⟨rfl, _, _, rfl, by omega, by omega, by omega, fun i a => ?_, fun i a b => ?_⟩
      · exact mono i (hint + l) (by omega) (by omega) y3
      · cases hi : bt i
        · rfl
        · have := y4 (by omega)
          rw [mono _ _ (by omega) b hi] at this; cases this
    case bp2 =>
      rintro c st' ⟨rfl, l, h, rfl, z1, z2, z3, z4⟩
      subst z1
      exact wpS_pure (q l z2 z3 z4)
    case bs2 =>
      rintro x c st' _ hx ⟨rfl, l, h, rfl, z1, z2, z3, z4, z5⟩
      dsimp only
      by_cases hge : l ≥ h
      · rw [if_pos hge]
        exact wpS_pure ⟨rfl, l, h, rfl, by omega, z2, z4, z5⟩
      · rw [if_neg hge]
        refine wpS_bind (hb _ (by omega) _ ?_)
        dsimp only
        cases hm : bt (l + (h - l) / 2)
        · rw [if_neg (by decide)]
          refine wpS_pure ⟨rfl, l, _, rfl, by omega, by omega, by omega, z4, fun i a b => ?_⟩
          cases hi : bt i
          · rfl
          · rw [mono _ _ a b hi] at hm; cases hm
        · rw [if_pos rfl]
          exact wpS_pure ⟨rfl, _, h, rfl, by omega, by omega, by omega, fun i a => mono i _ (by omega) (by omega) hm, z5⟩
end
end TS

set_option maxRecDepth 100000
namespace TS
open PySem PyProof.Rows
section
variable {M : Model} {A : Around} {E : Value → Shared → Prop} {s : Shared} {key : Keyed → Nat} {S0 : List Keyed} {kd : SortKind}
theorem Inv.endA' {a b out : Array Keyed} {ia ib : Nat} (h : Inv key a b out ia ib) (e : ib = b.size) (hs : Srt key a 0 a.size) : Whole key a b (out ++ a.extract ia a.size ++ b.extract ib b.size) := by
  subst e; exact h.endA hs
theorem Inv.endB' {a b out : Array Keyed} {ia ib : Nat} (h : Inv key a b out ia ib) (e : ia = a.size) (hs : Srt key b 0 b.size) : Whole key a b (out ++ a.extract ia a.size ++ b.extract ib b.size) := by
  subst e; exact h.endB hs
/-- all but the galloping measure is as it was -/
def SameG (st st' : SortSt) : Prop := kindOf st' = kindOf st ∧ arrOf st' = arrOf st ∧ pendingOf st' = pendingOf st ∧ failedOf st' = failedOf st
theorem wp_setG {st : SortSt} {g : Nat} {Q : PUnit → SortSt → Prop} (h : ∀ st', SameG st st' → Q ⟨⟩ st') : wpS M A E s ((sortPriv% PySem.Builtin.setMinGallop) g) Q st :=
  wpS_modify (h _ ⟨rfl, rfl, rfl, rfl⟩)
theorem SameG.trans {x y z : SortSt} (h : SameG x y) (g : SameG y z) : SameG x z := ⟨g.1.trans h.1, g.2.1.trans h.2.1, g.2.2.1.trans h.2.2.1, g.2.2.2.trans h.2.2.2⟩
theorem SameG.refl (x : SortSt) : SameG x x := ⟨rfl, rfl, rfl, rfl⟩
theorem mono_right {arr : Array Keyed} {p : Keyed} {base n : Nat} (h : Srt key arr 0 arr.size) (hn : base + n ≤ arr.size) (i j : Nat) (hij : i ≤ j) (hj : j < n) (z : beyB key false p arr base j = true) : beyB key false p arr base i = true := by
  unfold beyB at z ⊢
  simp at z ⊢
  exact Nat.le_trans (h _ _ (by omega) (by omega) (by omega)) z
theorem mono_left {arr : Array Keyed} {p : Keyed} {base n : Nat} (h : Srt key arr 0 arr.size) (hn : base + n ≤ arr.size) (i j : Nat) (hij : i ≤ j) (hj : j < n) (z : beyB key true p arr base j = true) : beyB key true p arr base i = true := by
  unfold beyB at z ⊢
  simp at z ⊢
  exact Nat.lt_of_le_of_lt (h _ _ (by omega) (by omega) (by omega)) z
theorem right_t {arr : Array Keyed} {p : Keyed} {base i : Nat} (z : beyB key false p arr base i = true) : kv key arr (base + i) ≤ key p := by
  unfold beyB at z; simpa using z
theorem right_f {arr : Array Keyed} {p : Keyed} {base i : Nat} (z : beyB key false p arr base i = false) : key p < kv key arr (base + i) := by
  unfold beyB at z; simpa using z
theorem left_t {arr : Array Keyed} {p : Keyed} {base i : Nat} (z : beyB key true p arr base i = true) : kv key arr (base + i) < key p := by
  unfold beyB at z; simpa using z
theorem left_f {arr : Array Keyed} {p : Keyed} {base i : Nat} (z : beyB key true p arr base i = false) : key p ≤ kv key arr (base + i) := by
  unfold beyB at z; simpa using z

/-- the run of a merging from below: told, or still going on -/
def LoI (key : Keyed → Nat) (a b : Array Keyed) (m : Nat) (out : Array Keyed) (ia ib : Nat) : Prop := Inv key a b out ia ib ∧ ia + 1 < a.size ∧ ib < b.size ∧ m ≤ ia + ib

theorem wp_mergeLo (hL : LtOk M A E s kd S0 key) {a b : Array Keyed} (ha : Sub S0 a) (hb : Sub S0 b) (na : 1 ≤ a.size) (nb : 1 ≤ b.size) (sa : Srt key a 0 a.size) (sb : Srt key b 0 b.size)
    (h0 : kv key b 0 ≤ kv key a 0) (hl : ∀ j, j < b.size → kv key b j ≤ kv key a (a.size - 1)) {st : SortSt} (hk : kindOf st = kd) {Q : Array Keyed → SortSt → Prop}
    (q : ∀ out st', SameG st st' → Whole key a b out → Q out st') : wpS M A E s (mergeLo' a b) Q st := by
  refine wpS_bind (wpS_lift (wpAny_rule ⟨rfl, ?_⟩))
  refine wpS_bind (wp_elem (by omega) ?_)
  dsimp only
  have i0 : Inv key a b #[b[0]] 0 1 := by
    have e : Inv key a b #[] 0 0 := ⟨by omega, by omega, by simp, by simp, by simp, by simp⟩
    have := e.flip.more (by omega) sb fun j h1 h2 => Nat.le_trans h0 (sa 0 j (by omega) (by omega) h2)
    exact this.flip
  by_cases e1 : 1 = b.size
  · rw [if_pos (beq_iff_eq.mpr e1)]
    exact wpS_pure (q _ _ (.refl _) (i0.endA' e1 sa))
  rw [if_neg (fun z => e1 (beq_iff_eq.mp z))]
  by_cases e2 : 0 + 1 = a.size
  · rw [if_pos (beq_iff_eq.mpr e2)]
    exact wpS_pure (q _ _ (.refl _) (i0.lastA sa sb e2 hl))
  rw [if_neg (fun z => e2 (beq_iff_eq.mp z))]
  refine wpS_bind (wpS_get ?_)
  refine wpS_bind (wpS_mono (wpS_forRange (I := fun x c st' => SameG st st' ∧ ∃ out ia ib mg, c = (none, out, ia, ib, mg) ∧ LoI key a b (x + 1) out ia ib)
    (Q := fun c st' => SameG st st' ∧ ∃ r rest, c = (some r, rest) ∧ Whole key a b r) ?os ?oe ?oi) ?op)
  case oi => exact ⟨.refl _, _, _, _, _, rfl, i0, by omega, by omega, by omega⟩
  case oe =>
    rintro c st' ⟨_, out, ia, ib, mg, rfl, _, z1, z2, z3⟩
    exfalso
    have : max 0 (a.size + b.size) = a.size + b.size := by omega
    omega
  case op =>
    rintro c st' ⟨g, r, rest, rfl, w⟩
    exact wpS_pure (q _ _ g w)
  case os =>
    rintro x c st1 _ hx ⟨g1, out, ia, ib, mg, rfl, hI⟩
    dsimp only
    refine wpS_bind (wpS_mono (wpS_forRange (I := fun y c st' => SameG st st' ∧ ∃ out ia ib ac bc, c = (none, out, ia, ib, ac, bc) ∧ LoI key a b (x + 1 + min y 1) out ia ib)
      (Q := fun c st' => SameG st st' ∧ ((∃ r rest, c = (some r, rest) ∧ Whole key a b r) ∨ ∃ out ia ib ac bc, c = (none, out, ia, ib, ac, bc) ∧ LoI key a b (x + 2) out ia ib)) ?ps ?pe ?pi) ?pp)
    case pi => exact ⟨g1, _, _, _, _, _, rfl, hI⟩
    case pe =>
      rintro c st' ⟨g, out, ia, ib, ac, bc, rfl, z0, z1, z2, z3⟩
      exact ⟨g, .inr ⟨_, _, _, _, _, rfl, z0, z1, z2, by omega⟩⟩
    case ps =>
      rintro y c st2 _ hy ⟨g2, out, ia, ib, ac, bc, rfl, z0, z1, z2, z3⟩
      dsimp only
      have hi : ia < a.size := by omega
      refine wpS_bind (wp_elem z2 (wpS_bind (wp_elem hi (wpS_bind (hL _ _ _ _ (hb _ z2) (ha _ hi) (g2.1.trans hk) ?_)))))
      dsimp only
      have ka := kv_at key hi
      have kb := kv_at key z2
      by_cases hw : key b[ib] < key a[ia]
      · rw [decide_eq_true hw, if_pos rfl]
        refine wpS_bind (wp_elem z2 ?_)
        have h1 := (z0.flip.more z2 sb fun j p1 p2 => by have := sa ia j (by omega) p1 p2; omega).flip
        by_cases e3 : ib + 1 = b.size
        · rw [if_pos (beq_iff_eq.mpr e3)]
          exact wpS_pure ⟨g2, .inl ⟨_, _, rfl, h1.endA' e3 sa⟩⟩
        · rw [if_neg (fun z => e3 (beq_iff_eq.mp z))]
          split
          · exact wpS_pure ⟨g2, .inr ⟨_, _, _, _, _, rfl, h1, by omega, by omega, by omega⟩⟩
          · exact wpS_pure ⟨g2, _, _, _, _, _, rfl, h1, by omega, by omega, by omega⟩
      · rw [decide_eq_false hw, if_neg (by decide)]
        refine wpS_bind (wp_elem hi ?_)
        have h1 := z0.more hi sa fun j p1 p2 => by have := sb ib j (by omega) p1 p2; omega
        by_cases e3 : ia + 1 + 1 = a.size
        · rw [if_pos (beq_iff_eq.mpr e3)]
          exact wpS_pure ⟨g2, .inl ⟨_, _, rfl, h1.lastA sa sb e3 hl⟩⟩
        · rw [if_neg (fun z => e3 (beq_iff_eq.mp z))]
          split
          · exact wpS_pure ⟨g2, .inr ⟨_, _, _, _, _, rfl, h1, by omega, by omega, by omega⟩⟩
          · exact wpS_pure ⟨g2, _, _, _, _, _, rfl, h1, by omega, by omega, by omega⟩
    rintro c st2 ⟨g2, ⟨r, rest, rfl, w⟩ | ⟨out, ia, ib, ac, bc, rfl, hI⟩⟩
    · exact wpS_pure ⟨g2, _, _, rfl, w⟩
    dsimp only
    refine wpS_bind (wpS_lift (wpAny_rule ⟨rfl, ?_⟩))
    refine wpS_bind (wpS_mono (wpS_forRange (I := fun y c st' => SameG st st' ∧ ∃ out ia ib mg ac bc, c = (none, out, ia, ib, mg, ac, bc) ∧ LoI key a b (x + 2) out ia ib)
      (Q := fun c st' => SameG st st' ∧ ((∃ r rest, c = (some r, rest) ∧ Whole key a b r) ∨ ∃ out ia ib mg ac bc, c = (none, out, ia, ib, mg, ac, bc) ∧ LoI key a b (x + 2) out ia ib)) ?gs ?ge ?gi) ?gp)
    case gi => exact ⟨g2, _, _, _, _, _, _, rfl, hI⟩
    case ge =>
      rintro c st' ⟨g, out, ia, ib, mg, ac, bc, rfl, z⟩
      exact ⟨g, .inr ⟨_, _, _, _, _, _, rfl, z⟩⟩
    case gp =>
      rintro c st3 ⟨g3, ⟨r, rest, rfl, w⟩ | ⟨out, ia, ib, mg, ac, bc, rfl, hI⟩⟩
      · exact wpS_pure ⟨g3, _, _, rfl, w⟩
      · dsimp only
        refine wpS_bind (wp_setG fun st4 g4 => wpS_pure ⟨g3.trans g4, _, _, _, _, rfl, hI⟩)
    case gs =>
      rintro y c st3 _ hy ⟨g3, out, ia, ib, mg, ac, bc, rfl, z0, z1, z2, z3⟩
      dsimp only
      have hi : ia < a.size := by omega
      have kb := kv_at key z2
      by_cases hg : mg > 1
      focus
        rw [if_pos hg]
      rotate_left 1
      focus
        rw [if_neg hg]
      all_goals
        refine wpS_bind (wp_setG fun st4 g4 => ?_)
        refine wpS_bind (wp_elem z2 ?_)
        refine wpS_bind (wp_gallop hL (hb _ z2) ha (by omega) (by omega) ((g3.trans g4).1.trans hk) (mono_right sa (by omega)) fun k k1 k2 k3 => ?_)
        dsimp only
        have m1 := z0.many sa k (by omega) fun i j p1 p2 p3 p4 => by
          have := right_t (k2 (i - ia) (by omega))
          rw [show ia + (i - ia) = i by omega] at this
          have := sb ib j (by omega) p3 p4
          omega
        have m2 : ∀ i, ia + k ≤ i → i < a.size → kv key b ib ≤ kv key a i := fun i p1 p2 => by
          have := right_f (k3 (i - ia) (by omega) (by omega))
          rw [show ia + (i - ia) = i by omega] at this
          omega
        by_cases hk0 : k > 0
        focus
          rw [if_pos hk0]
          by_cases e3 : ia + k + 1 = a.size
          · rw [if_pos (beq_iff_eq.mpr e3)]
            exact wpS_pure ⟨g3.trans g4, .inl ⟨_, _, rfl, m1.lastA sa sb e3 hl⟩⟩
          rw [if_neg (fun z => e3 (beq_iff_eq.mp z))]
          by_cases e4 : ia + k = a.size
          · rw [if_pos (beq_iff_eq.mpr e4)]
            exact wpS_pure ⟨g3.trans g4, .inl ⟨_, _, rfl, m1.endB' e4 sb⟩⟩
          rw [if_neg (fun z => e4 (beq_iff_eq.mp z))]
          have hi2 : ia + k + 1 < a.size := by omega
        rotate_left 1
        focus
          rw [if_neg hk0]
          have hk0' : k = 0 := by omega
          subst hk0'
          have m1 := z0
          have hi2 : ia + 1 < a.size := by omega
          rw [Nat.add_zero] at m2
        all_goals
          refine wpS_bind (wp_elem z2 ?_)
          have m3 := (m1.flip.more z2 sb m2).flip
          by_cases e5 : ib + 1 = b.size
          · rw [if_pos (beq_iff_eq.mpr e5)]
            exact wpS_pure ⟨g3.trans g4, .inl ⟨_, _, rfl, m3.endA' e5 sa⟩⟩
          rw [if_neg (fun z => e5 (beq_iff_eq.mp z))]
          refine wpS_bind (wp_elem (Nat.lt_of_succ_lt hi2) ?_)
          refine wpS_bind (wp_gallop hL (ha _ (Nat.lt_of_succ_lt hi2)) hb (by omega) (by omega) ((g3.trans g4).1.trans hk) (mono_left sb (by omega)) fun l l1 l2 l3 => ?_)
          dsimp only
          have ka := kv_at key (Nat.lt_of_succ_lt hi2)
          have m4 := (m3.flip.many sb l (by omega) fun j i p1 p2 p3 p4 => by
            have y1 := left_t (l2 (j - (ib + 1)) (by omega))
            rw [show ib + 1 + (j - (ib + 1)) = j by omega] at y1
            have y2 := sa _ i (Nat.zero_le _) p3 p4
            omega).flip
          have m5 : ∀ j, ib + 1 + l ≤ j → j < b.size → kv key a _ ≤ kv key b j := fun j p1 p2 => by
            have y1 := left_f (l3 (j - (ib + 1)) (by omega) (by omega))
            rw [show ib + 1 + (j - (ib + 1)) = j by omega, ← ka] at y1
            exact y1
          by_cases hl0 : l > 0
          focus
            rw [if_pos hl0]
            by_cases e6 : ib + 1 + l = b.size
            · rw [if_pos (beq_iff_eq.mpr e6)]
              exact wpS_pure ⟨g3.trans g4, .inl ⟨_, _, rfl, m4.endA' e6 sa⟩⟩
            rw [if_neg (fun z => e6 (beq_iff_eq.mp z))]
            have hi3 : ib + 1 + l < b.size := by omega
          rotate_left 1
          focus
            rw [if_neg hl0]
            have hl0' : l = 0 := by omega
            subst hl0'
            have m4 := m3
            have hi3 : ib + 1 < b.size := by omega
            rw [Nat.add_zero] at m5
          all_goals
            refine wpS_bind (wp_elem (Nat.lt_of_succ_lt hi2) ?_)
            have m6 := m4.more (Nat.lt_of_succ_lt hi2) sa m5
            split
            · rename_i e7
              exact wpS_pure ⟨g3.trans g4, .inl ⟨_, _, rfl, m6.lastA sa sb (beq_iff_eq.mp e7) hl⟩⟩
            · rename_i e7
              have e8 := mt beq_iff_eq.mpr e7
              split
              · exact wpS_pure ⟨g3.trans g4, .inr ⟨_, _, _, _, _, _, rfl, m6, by omega, by omega, by omega⟩⟩
              · exact wpS_pure ⟨g3.trans g4, _, _, _, _, _, _, rfl, m6, by omega, by omega, by omega⟩
end
end TS

set_option maxRecDepth 100000
namespace TS
open PySem PyProof.Rows
section
variable {M : Model} {A : Around} {E : Value → Shared → Prop} {s : Shared} {key : Keyed → Nat} {S0 : List Keyed} {kd : SortKind}
theorem InvH.endB' {a b out : Array Keyed} {na nb : Nat} (h : InvH key a b out na nb) (e : na = 0) (hs : Srt key b 0 b.size) : Whole key a b (a.extract 0 na ++ b.extract 0 nb ++ out.reverse) := by
  subst e; exact h.endB hs
theorem InvH.endA' {a b out : Array Keyed} {na nb : Nat} (h : InvH key a b out na nb) (e : nb = 0) (hs : Srt key a 0 a.size) : Whole key a b (a.extract 0 na ++ b.extract 0 nb ++ out.reverse) := by
  subst e; exact h.endA hs
theorem InvH.firstB' {a b out : Array Keyed} {na nb : Nat} (h : InvH key a b out na nb) (e : nb = 1) (hs : Srt key a 0 a.size) (hs' : Srt key b 0 b.size)
    (hl : ∀ i, i < a.size → kv key b 0 ≤ kv key a i) : Whole key a b (b.extract 0 nb ++ a.extract 0 na ++ out.reverse) := by
  subst e; exact h.firstB hs hs' hl
theorem InvH.more' {a b out : Array Keyed} {na nb : Nat} (h : InvH key a b out na nb) (h1 : 1 ≤ na) (hi : na - 1 < a.size) (hs : Srt key a 0 a.size)
    (hb : ∀ j, j < nb → kv key b j ≤ kv key a (na - 1)) : InvH key a b (out.push a[na - 1]) (na - 1) nb := by
  have e : na = na - 1 + 1 := by omega
  rw [e] at h
  exact h.more hi hs hb
def HiI (key : Keyed → Nat) (a b : Array Keyed) (m : Nat) (out : Array Keyed) (na nb : Nat) : Prop := InvH key a b out na nb ∧ 1 ≤ na ∧ 2 ≤ nb ∧ na + nb + m ≤ a.size + b.size
theorem wp_mergeHi (hL : LtOk M A E s kd S0 key) {a b : Array Keyed} (ha : Sub S0 a) (hb : Sub S0 b) (na0 : 1 ≤ a.size) (nb0 : 1 ≤ b.size) (sa : Srt key a 0 a.size) (sb : Srt key b 0 b.size)
    (h0 : ∀ i, i < a.size → kv key b 0 ≤ kv key a i) (hl : ∀ j, j < b.size → kv key b j ≤ kv key a (a.size - 1)) {st : SortSt} (hk : kindOf st = kd) {Q : Array Keyed → SortSt → Prop}
    (q : ∀ out st', SameG st st' → Whole key a b out → Q out st') : wpS M A E s (mergeHi' a b) Q st := by
  refine wpS_bind (wpS_lift (wpAny_rule ⟨rfl, ?_⟩))
  refine wpS_bind (wp_elem (by omega) ?_)
  dsimp only
  have i0 : InvH key a b #[a[a.size - 1]] (a.size - 1) b.size := by
    have e : InvH key a b #[] a.size b.size := ⟨by omega, by omega, by simp [List.drop_eq_nil_of_le], by simp, by simp, by simp⟩
    exact e.more' na0 (by omega) sa hl
  by_cases e1 : a.size - 1 = 0
  · rw [if_pos (beq_iff_eq.mpr e1)]
    exact wpS_pure (q _ _ (.refl _) (i0.endB' e1 sb))
  rw [if_neg (fun z => e1 (beq_iff_eq.mp z))]
  by_cases e2 : b.size = 1
  · rw [if_pos (beq_iff_eq.mpr e2)]
    exact wpS_pure (q _ _ (.refl _) (i0.firstB' e2 sa sb h0))
  rw [if_neg (fun z => e2 (beq_iff_eq.mp z))]
  refine wpS_bind (wpS_get ?_)
  refine wpS_bind (wpS_mono (wpS_forRange (I := fun x c st' => SameG st st' ∧ ∃ na nb out mg, c = (none, na, nb, out, mg) ∧ HiI key a b (x + 1) out na nb)
    (Q := fun c st' => SameG st st' ∧ ∃ r rest, c = (some r, rest) ∧ Whole key a b r) ?os ?oe ?oi) ?op)
  case oi => exact ⟨.refl _, _, _, _, _, rfl, i0, by omega, by omega, by omega⟩
  case oe =>
    rintro c st' ⟨_, na, nb, out, mg, rfl, _, z1, z2, z3⟩
    exfalso
    have : max 0 (a.size + b.size) = a.size + b.size := by omega
    omega
  case op =>
    rintro c st' ⟨g, r, rest, rfl, w⟩
    exact wpS_pure (q _ _ g w)
  case os =>
    rintro x c st1 _ hx ⟨g1, na, nb, out, mg, rfl, hI⟩
    dsimp only
    refine wpS_bind (wpS_mono (wpS_forRange (I := fun y c st' => SameG st st' ∧ ∃ na nb out ac bc, c = (none, na, nb, out, ac, bc) ∧ HiI key a b (x + 1 + min y 1) out na nb)
      (Q := fun c st' => SameG st st' ∧ ((∃ r rest, c = (some r, rest) ∧ Whole key a b r) ∨ ∃ na nb out ac bc, c = (none, na, nb, out, ac, bc) ∧ HiI key a b (x + 2) out na nb)) ?ps ?pe ?pi) ?pp)
    case pi => exact ⟨g1, _, _, _, _, _, rfl, hI⟩
    case pe =>
      rintro c st' ⟨g, na, nb, out, ac, bc, rfl, z0, z1, z2, z3⟩
      exact ⟨g, .inr ⟨_, _, _, _, _, rfl, z0, z1, z2, by omega⟩⟩
    case ps =>
      rintro y c st2 _ hy ⟨g2, na, nb, out, ac, bc, rfl, z0, z1, z2, z3⟩
      dsimp only
      have la := z0.la
      have lb := z0.lb
      have hi : na - 1 < a.size := by omega
      have hj : nb - 1 < b.size := by omega
      refine wpS_bind (wp_elem hj (wpS_bind (wp_elem hi (wpS_bind (hL _ _ _ _ (hb _ hj) (ha _ hi) (g2.1.trans hk) ?_)))))
      dsimp only
      have ka := kv_at key hi
      have kb := kv_at key hj
      by_cases hw : key b[nb - 1] < key a[na - 1]
      · rw [decide_eq_true hw, if_pos rfl]
        refine wpS_bind (wp_elem hi ?_)
        have h1 := z0.more' z1 hi sa fun j p1 => by have := sb j (nb - 1) (by omega) (by omega) (by omega); omega
        by_cases e3 : na - 1 = 0
        · rw [if_pos (beq_iff_eq.mpr e3)]
          exact wpS_pure ⟨g2, .inl ⟨_, _, rfl, h1.endB' e3 sb⟩⟩
        · rw [if_neg (fun z => e3 (beq_iff_eq.mp z))]
          split
          · exact wpS_pure ⟨g2, .inr ⟨_, _, _, _, _, rfl, h1, by omega, by omega, by omega⟩⟩
          · exact wpS_pure ⟨g2, _, _, _, _, _, rfl, h1, by omega, by omega, by omega⟩
      · rw [decide_eq_false hw, if_neg (by decide)]
        refine wpS_bind (wp_elem hj ?_)
        have h1 := (z0.flip.more' (by omega) hj sb fun j p1 => by have := sa j (na - 1) (by omega) (by omega) (by omega); omega).flip
        by_cases e3 : nb - 1 = 1
        · rw [if_pos (beq_iff_eq.mpr e3)]
          exact wpS_pure ⟨g2, .inl ⟨_, _, rfl, h1.firstB' e3 sa sb h0⟩⟩
        · rw [if_neg (fun z => e3 (beq_iff_eq.mp z))]
          split
          · exact wpS_pure ⟨g2, .inr ⟨_, _, _, _, _, rfl, h1, by omega, by omega, by omega⟩⟩
          · exact wpS_pure ⟨g2, _, _, _, _, _, rfl, h1, by omega, by omega, by omega⟩
    rintro c st2 ⟨g2, ⟨r, rest, rfl, w⟩ | ⟨na, nb, out, ac, bc, rfl, hI⟩⟩
    · exact wpS_pure ⟨g2, _, _, rfl, w⟩
    dsimp only
    refine wpS_bind (wpS_lift (wpAny_rule ⟨rfl, ?_⟩))
    refine wpS_bind (wpS_mono (wpS_forRange (I := fun y c st' => SameG st st' ∧ ∃ na nb out mg ac bc, c = (none, na, nb, out, mg, ac, bc) ∧ HiI key a b (x + 2) out na nb)
      (Q := fun c st' => SameG st st' ∧ ((∃ r rest, c = (some r, rest) ∧ Whole key a b r) ∨ ∃ na nb out mg ac bc, c = (none, na, nb, out, mg, ac, bc) ∧ HiI key a b (x + 2) out na nb)) ?gs ?ge ?gi) ?gp)
    case gi => exact ⟨g2, _, _, _, _, _, _, rfl, hI⟩
    case ge =>
      rintro c st' ⟨g, na, nb, out, mg, ac, bc, rfl, z⟩
      exact ⟨g, .inr ⟨_, _, _, _, _, _, rfl, z⟩⟩
    case gp =>
      rintro c st3 ⟨g3, ⟨r, rest, rfl, w⟩ | ⟨na, nb, out, mg, ac, bc, rfl, hI⟩⟩
      · exact wpS_pure ⟨g3, _, _, rfl, w⟩
      · dsimp only
        refine wpS_bind (wp_setG fun st4 g4 => wpS_pure ⟨g3.trans g4, _, _, _, _, rfl, hI⟩)
    case gs =>
      rintro y c st3 _ hy ⟨g3, na, nb, out, mg, ac, bc, rfl, z0, z1, z2, z3⟩
      dsimp only
      have la := z0.la
      have lb := z0.lb
      have hj : nb - 1 < b.size := by omega
      have kb := kv_at key hj
      by_cases hg : mg > 1
      focus
        rw [if_pos hg]
      rotate_left 1
      focus
        rw [if_neg hg]
      all_goals
        refine wpS_bind (wp_setG fun st4 g4 => ?_)
        refine wpS_bind (wp_elem hj ?_)
        refine wpS_bind (wp_gallop hL (hb _ hj) ha (by omega) (by omega) ((g3.trans g4).1.trans hk) (mono_right sa (by omega)) fun k k1 k2 k3 => ?_)
        dsimp only
        have m1 := z0.manyTo sa (k := k) k1 fun i j p1 p2 p3 => by
          have y1 := right_f (k3 i p1 p2)
          rw [Nat.zero_add] at y1
          have := sb j (nb - 1) (by omega) (by omega) (by omega)
          omega
        have m2 : ∀ i, i < k → kv key a i ≤ kv key b (nb - 1) := fun i p1 => by
          have y1 := right_t (k2 i p1)
          rw [Nat.zero_add] at y1
          omega
        by_cases hk0 : na - k > 0
        focus
          rw [if_pos hk0]
          by_cases e3 : k = 0
          · rw [if_pos (beq_iff_eq.mpr e3)]
            exact wpS_pure ⟨g3.trans g4, .inl ⟨_, _, rfl, m1.endB' e3 sb⟩⟩
          rw [if_neg (fun z => e3 (beq_iff_eq.mp z))]
          have hi2 : 1 ≤ k ∧ k ≤ na := by omega
        rotate_left 1
        focus
          rw [if_neg hk0]
          have hk0' : k = na := by omega
          subst hk0'
          have m1 := z0
          have hi2 : 1 ≤ k ∧ k ≤ k := by omega
        all_goals
          refine wpS_bind (wp_elem hj ?_)
          have m3 := (m1.flip.more' (by omega) hj sb m2).flip
          by_cases e5 : nb - 1 = 1
          · rw [if_pos (beq_iff_eq.mpr e5)]
            exact wpS_pure ⟨g3.trans g4, .inl ⟨_, _, rfl, m3.firstB' e5 sa sb h0⟩⟩
          rw [if_neg (fun z => e5 (beq_iff_eq.mp z))]
          have hi3 : k - 1 < a.size := by omega
          refine wpS_bind (wp_elem hi3 ?_)
          refine wpS_bind (wp_gallop hL (ha _ hi3) hb (by omega) (by omega) ((g3.trans g4).1.trans hk) (mono_left sb (by omega)) fun l l1 l2 l3 => ?_)
          dsimp only
          have ka := kv_at key hi3
          have m4 := (m3.flip.manyTo sb (k := l) l1 fun j i p1 p2 p3 => by
            have y1 := left_f (l3 j p1 p2)
            rw [Nat.zero_add] at y1
            have y2 := sa i (k - 1) (Nat.zero_le _) (by omega) hi3
            omega).flip
          have m5 : ∀ j, j < l → kv key b j ≤ kv key a (k - 1) := fun j p1 => by
            have y1 := left_t (l2 j p1)
            rw [Nat.zero_add] at y1
            omega
          by_cases hl0 : nb - 1 - l > 0
          focus
            rw [if_pos hl0]
            by_cases e6 : l = 1
            · rw [if_pos (beq_iff_eq.mpr e6)]
              exact wpS_pure ⟨g3.trans g4, .inl ⟨_, _, rfl, m4.firstB' e6 sa sb h0⟩⟩
            rw [if_neg (fun z => e6 (beq_iff_eq.mp z))]
            by_cases e7 : l = 0
            · rw [if_pos (beq_iff_eq.mpr e7)]
              exact wpS_pure ⟨g3.trans g4, .inl ⟨_, _, rfl, m4.endA' e7 sa⟩⟩
            rw [if_neg (fun z => e7 (beq_iff_eq.mp z))]
            have hi4 : 2 ≤ l ∧ l ≤ nb - 1 := by omega
          rotate_left 1
          focus
            rw [if_neg hl0]
            have hl0' : l = nb - 1 := by omega
            subst hl0'
            have m4 := m3
            have hi4 : 2 ≤ nb - 1 ∧ nb - 1 ≤ nb - 1 := by omega
          all_goals
            refine wpS_bind (wp_elem hi3 ?_)
            have m6 := m4.more' hi2.1 hi3 sa m5
            split
            · rename_i e7
              exact wpS_pure ⟨g3.trans g4, .inl ⟨_, _, rfl, m6.endB' (beq_iff_eq.mp e7) sb⟩⟩
            · rename_i e7
              have e8 := mt beq_iff_eq.mpr e7
              split
              · exact wpS_pure ⟨g3.trans g4, .inr ⟨_, _, _, _, _, _, rfl, m6, by omega, by omega, by omega⟩⟩
              · exact wpS_pure ⟨g3.trans g4, _, _, _, _, _, _, rfl, m6, by omega, by omega, by omega⟩
end
end TS

set_option maxRecDepth 100000
namespace TS
open PySem PyProof.Rows
section
variable {M : Model} {A : Around} {E : Value → Shared → Prop} {s : Shared} {key : Keyed → Nat} {a₀ : Array Keyed} {kd : SortKind}
/-- the state is one of this list, no two keys alike -/
structure Good (key : Keyed → Nat) (a₀ : Array Keyed) (kd : SortKind) (st : SortSt) : Prop where
  perm : (arrOf st).Perm a₀
  kind : kindOf st = kd
  ok : failedOf st = none
  nodup : (a₀.toList.map key).Nodup
theorem Good.size {st : SortSt} (h : Good key a₀ kd st) : (arrOf st).size = a₀.size := h.perm.size_eq
theorem Good.sub {st : SortSt} (h : Good key a₀ kd st) : Sub a₀.toList (arrOf st) := fun i hi => (Array.perm_iff_toList_perm.mp h.perm).mem_iff.mp (by simp)
theorem Good.ne {st : SortSt} (h : Good key a₀ kd st) {i j : Nat} (hi : i < a₀.size) (hj : j < a₀.size) (hij : i ≠ j) : kv key (arrOf st) i ≠ kv key (arrOf st) j := by
  have n : ((arrOf st).toList.map key).Nodup := ((Array.perm_iff_toList_perm.mp h.perm).map key).nodup_iff.mpr h.nodup
  rw [← h.size] at hi hj
  rw [kv_at key hi, kv_at key hj]
  intro e
  refine hij ((List.getElem_inj (xs := (arrOf st).toList.map key) (h₀ := by simpa using hi) (h₁ := by simpa using hj) n).mp ?_)
  simpa using e
theorem Good.set {st st' : SortSt} (h : Good key a₀ kd st) (hp : (arrOf st').Perm (arrOf st)) (hk : kindOf st' = kindOf st) (hf : failedOf st' = failedOf st) : Good key a₀ kd st' :=
  ⟨hp.trans h.perm, hk.trans h.kind, hf.trans h.ok, h.nodup⟩
theorem wp_ltAt (hL : LtOk M A E s kd a₀.toList key) {st : SortSt} (h : Good key a₀ kd st) {i j : Nat} (hi : i < a₀.size) (hj : j < a₀.size) {Q : Option Bool → SortSt → Prop}
    (q : Q (some (decide (kv key (arrOf st) i < kv key (arrOf st) j))) st) : wpS M A E s (ltAt' i j) Q st := by
  rw [← h.size] at hi hj
  rw [kv_at key hi, kv_at key hj] at q
  refine wpS_bind (wpS_get ?_)
  exact wpS_bind (wp_elem hi (wpS_bind (wp_elem hj (hL _ _ _ _ (h.sub _ hi) (h.sub _ hj) h.kind q))))
theorem kv_mirror {xs : Array Keyed} {i j : Nat} (hj : j ≤ xs.size) (k : Nat) : kv key (mirror xs i j ((j - i) / 2)) k = if i ≤ k ∧ k < j then kv key xs (i + j - 1 - k) else kv key xs k := by
  have e := getElem?_mirror_all (i := i) hj k
  unfold kv
  rw [e]
  by_cases c : i ≤ k ∧ k < j
  · rw [if_pos c, if_pos c]
  · rw [if_neg c, if_neg c]
theorem kv_bubble {xs : Array Keyed} {src d : Nat} (hs : src < xs.size) (hd : d ≤ src) (k : Nat) : kv key (bubble xs src d) k = if k = src - d then kv key xs src else if src - d < k ∧ k ≤ src then kv key xs (k - 1) else kv key xs k := by
  have e := getElem?_bubble hs d hd k
  unfold kv
  rw [e]
  by_cases c : k = src - d
  · rw [if_pos c, if_pos c]
  · rw [if_neg c, if_neg c]
    by_cases c : src - d < k ∧ k ≤ src
    · rw [if_pos c, if_pos c]
    · rw [if_neg c, if_neg c]
/-- what lies below is as it was -/
def Fix (key : Keyed → Nat) (lo : Nat) (st st' : SortSt) : Prop := pendingOf st' = pendingOf st ∧ ∀ i, i < lo → kv key (arrOf st') i = kv key (arrOf st) i
theorem Fix.refl (lo : Nat) (st : SortSt) : Fix key lo st st := ⟨rfl, fun _ _ => rfl⟩
theorem Fix.trans {lo : Nat} {x y z : SortSt} (h : Fix key lo x y) (g : Fix key lo y z) : Fix key lo x z := ⟨g.1.trans h.1, fun i hi => (g.2 i hi).trans (h.2 i hi)⟩
theorem wp_rev {st : SortSt} {i j : Nat} {Q : PUnit → SortSt → Prop} (h : Q ⟨⟩ (setArr st (mirror (arrOf st) i j ((j - i) / 2)))) : wpS M A E s (reverseSlice' i j) Q st := by
  rw [reverseSlice'_eq]; exact wpS_modify h
theorem Srt.one {xs : Array Keyed} {l : Nat} : Srt key xs l (l + 1) := fun i j _ _ _ => by
  rw [show i = j by omega]; exact Nat.le_refl _
theorem Srt.step {xs : Array Keyed} {l r : Nat} (h : Srt key xs l r) (hlr : l < r) (e : kv key xs (r - 1) ≤ kv key xs r) : Srt key xs l (r + 1) := fun i j h1 h2 h3 => by
  by_cases c : j < r
  · exact h i j h1 h2 c
  · have : j = r := by omega
    subst this
    by_cases d : i = j
    · subst d; exact Nat.le_refl _
    · exact Nat.le_trans (h i (j - 1) h1 (by omega) (by omega)) e

theorem wp_countRun (hL : LtOk M A E s kd a₀.toList key) {st : SortSt} (h : Good key a₀ kd st) {lo nrem : Nat} (hn : lo + nrem ≤ a₀.size) (h1 : 1 ≤ nrem) {Q : Option Nat → SortSt → Prop}
    (q : ∀ n st', Good key a₀ kd st' → Fix key lo st st' → 1 ≤ n → n ≤ nrem → Srt key (arrOf st') lo (lo + n) → Q (some n) st') : wpS M A E s (countRun' lo nrem) Q st := by
  refine wpS_bind (wpS_mono (wpS_forRange (I := fun x c st' => st = st' ∧ c = (none, x) ∧ Srt key (arrOf st) lo (lo + x))
    (Q := fun c st' => st = st' ∧ ∃ n, c = (none, n) ∧ 1 ≤ n ∧ n ≤ nrem ∧ Srt key (arrOf st) lo (lo + n) ∧ (n < nrem → kv key (arrOf st) (lo + n) < kv key (arrOf st) (lo + n - 1))) ?as ?ae ?ai) ?ap)
  case ai => exact ⟨rfl, rfl, Srt.one⟩
  case ae =>
    rintro c st' ⟨rfl, rfl, z⟩
    exact ⟨rfl, _, rfl, by omega, by omega, z, fun y => by omega⟩
  case as =>
    rintro x c st' hx hx2 ⟨rfl, rfl, z⟩
    dsimp only
    refine wpS_bind (wp_ltAt hL h (by omega) (by omega) ?_)
    dsimp only
    by_cases hw : kv key (arrOf st) (lo + x) < kv key (arrOf st) (lo + x - 1)
    · rw [decide_eq_true hw, if_pos rfl]
      exact wpS_pure ⟨rfl, x, rfl, hx, by omega, z, fun _ => hw⟩
    · rw [decide_eq_false hw, if_neg (by decide)]
      exact wpS_pure ⟨rfl, rfl, z.step (by omega) (by omega)⟩
  rintro c st' ⟨rfl, n, rfl, n1, n2, z, hd⟩
  dsimp only
  by_cases e : n = nrem
  · rw [if_pos (beq_iff_eq.mpr e)]
    exact wpS_pure (q n st h (.refl _ _) n1 n2 z)
  rw [if_neg (fun z => e (beq_iff_eq.mp z))]
  have hd := hd (by omega)
  by_cases g : n > 1
  · rw [if_pos g]
    refine wpS_bind (wp_ltAt hL h (by omega) (by omega) ?_)
    dsimp only
    have y1 := z lo (lo + n - 1) (by omega) (by omega) (by omega)
    have y2 := h.ne (i := lo) (j := lo + n - 1) (by omega) (by omega) (by omega)
    rw [decide_eq_true (by omega), if_pos rfl]
    exact wpS_pure (q n st h (.refl _ _) n1 n2 z)
  rw [if_neg g]
  have en : n = 1 := by omega
  subst en
  refine wpS_bind (wpS_lift (wpAny_rule ⟨rfl, ?_⟩))
  refine wpS_bind (wpS_mono (wpS_forRange (I := fun x c st' => st = st' ∧ c = (none, x, 0) ∧ ∀ i j, lo ≤ i → i ≤ j → j < lo + x → kv key (arrOf st) j ≤ kv key (arrOf st) i)
    (Q := fun c st' => st = st' ∧ ∃ n, c = (none, n, 0) ∧ 2 ≤ n ∧ n ≤ nrem ∧ ∀ i j, lo ≤ i → i ≤ j → j < lo + n → kv key (arrOf st) j ≤ kv key (arrOf st) i) ?ds ?de ?di) ?dp)
  case di =>
    refine ⟨rfl, rfl, fun i j a b c => ?_⟩
    by_cases d : i = j
    · subst d; exact Nat.le_refl _
    · rw [show i = lo + 1 - 1 by omega, show j = lo + 1 by omega]; omega
  case de =>
    rintro c st' ⟨rfl, rfl, y⟩
    exact ⟨rfl, _, rfl, by omega, by omega, y⟩
  case ds =>
    rintro x c st' hx hx2 ⟨rfl, rfl, y⟩
    dsimp only
    refine wpS_bind (wp_ltAt hL h (by omega) (by omega) ?_)
    dsimp only
    by_cases hw : kv key (arrOf st) (lo + x) < kv key (arrOf st) (lo + x - 1)
    · rw [decide_eq_true hw, if_pos rfl, if_neg (by decide)]
      refine wpS_pure ⟨rfl, rfl, fun i j a b c => ?_⟩
      by_cases d : j < lo + x
      · exact y i j a b d
      · have : j = lo + x := by omega
        subst this
        by_cases d : i = lo + x
        · subst d; exact Nat.le_refl _
        · exact Nat.le_trans (Nat.le_of_lt hw) (y i (lo + x - 1) a (by omega) (by omega))
    · rw [decide_eq_false hw, if_neg (by decide)]
      refine wpS_bind (wp_ltAt hL h (by omega) (by omega) ?_)
      dsimp only
      have y2 := h.ne (i := lo + x) (j := lo + x - 1) (by omega) (by omega) (by omega)
      rw [decide_eq_true (by omega), if_pos rfl]
      exact wpS_pure ⟨rfl, x, rfl, hx, by omega, y⟩
  rintro c st' ⟨rfl, n, rfl, m1, m2, y⟩
  dsimp only
  rw [if_neg (by decide)]
  refine wpS_bind (wp_rev ?_)
  have hsz : lo + n ≤ (arrOf st).size := by rw [h.size]; omega
  have G2 : Good key a₀ kd (setArr st (mirror (arrOf st) lo (lo + n) ((lo + n - lo) / 2))) := h.set (mirror_perm _ _ _ _) rfl rfl
  have F2 : Fix key lo st (setArr st (mirror (arrOf st) lo (lo + n) ((lo + n - lo) / 2))) := ⟨rfl, fun i hi => by
    show kv key (mirror (arrOf st) lo (lo + n) ((lo + n - lo) / 2)) i = _
    rw [kv_mirror hsz, if_neg (by omega)]⟩
  have S2 : Srt key (arrOf (setArr st (mirror (arrOf st) lo (lo + n) ((lo + n - lo) / 2)))) lo (lo + n) := fun i j a b c => by
    show kv key (mirror (arrOf st) lo (lo + n) ((lo + n - lo) / 2)) i ≤ kv key (mirror (arrOf st) lo (lo + n) ((lo + n - lo) / 2)) j
    rw [kv_mirror hsz, kv_mirror hsz, if_pos (by omega), if_pos (by omega)]
    exact y _ _ (by omega) (by omega) (by omega)
  generalize setArr st (mirror (arrOf st) lo (lo + n) ((lo + n - lo) / 2)) = st2 at G2 F2 S2
  refine wpS_bind (wpS_mono (wpS_forRange (I := fun x c st' => st2 = st' ∧ c = (none, x) ∧ Srt key (arrOf st2) lo (lo + x))
    (Q := fun c st' => st2 = st' ∧ ∃ n, c = (none, n) ∧ 1 ≤ n ∧ n ≤ nrem ∧ Srt key (arrOf st2) lo (lo + n)) ?bs ?be ?bi) ?bp)
  case bi => exact ⟨rfl, rfl, S2⟩
  case be =>
    rintro c st' ⟨rfl, rfl, z⟩
    exact ⟨rfl, _, rfl, by omega, by omega, z⟩
  case bs =>
    rintro x c st' hx hx2 ⟨rfl, rfl, z⟩
    dsimp only
    refine wpS_bind (wp_ltAt hL G2 (by omega) (by omega) ?_)
    dsimp only
    by_cases hw : kv key (arrOf st2) (lo + x) < kv key (arrOf st2) (lo + x - 1)
    · rw [decide_eq_true hw, if_pos rfl]
      exact wpS_pure ⟨rfl, x, rfl, by omega, by omega, z⟩
    · rw [decide_eq_false hw, if_neg (by decide)]
      exact wpS_pure ⟨rfl, rfl, z.step (by omega) (by omega)⟩
  rintro c st' ⟨rfl, n, rfl, n3, n4, z2⟩
  exact wpS_pure (q n st2 G2 F2 n3 n4 z2)

theorem wp_binarySort (hL : LtOk M A E s kd a₀.toList key) {st : SortSt} (h : Good key a₀ kd st) {lo n ok : Nat} (hn : lo + n ≤ a₀.size) (h1 : 1 ≤ ok) (hok : ok ≤ n) (hs : Srt key (arrOf st) lo (lo + ok)) {Q : Bool → SortSt → Prop}
    (q : ∀ st', Good key a₀ kd st' → Fix key lo st st' → Srt key (arrOf st') lo (lo + n) → Q true st') : wpS M A E s (binarySort' lo n ok) Q st := by
  refine wpS_bind (wpS_mono (wpS_forRange (I := fun x c st' => c = (none, ()) ∧ Good key a₀ kd st' ∧ Fix key lo st st' ∧ Srt key (arrOf st') lo (lo + x))
    (Q := fun c st' => c = (none, ()) ∧ Good key a₀ kd st' ∧ Fix key lo st st' ∧ Srt key (arrOf st') lo (lo + n)) ?as ?ae ?ai) ?ap)
  case ai =>
    rw [show max ok 1 = ok by omega]
    exact ⟨rfl, h, .refl _ _, hs⟩
  case ae =>
    rintro c st' ⟨rfl, g, f, z⟩
    rw [show max (max ok 1) n = n by omega] at z
    exact ⟨rfl, g, f, z⟩
  case ap =>
    rintro c st' ⟨rfl, g, f, z⟩
    exact wpS_pure (q st' g f z)
  case as =>
    rintro k c st1 hk hk2 ⟨rfl, G, F, z⟩
    have k1 : lo + k < (arrOf st1).size := by rw [G.size]; omega
    refine wpS_bind (wpS_mono (wpS_forRange (I := fun x c st' => st1 = st' ∧ ∃ l r, c = (none, l, r) ∧ l ≤ r ∧ r ≤ k ∧ r - l ≤ k - x ∧ (∀ i, lo ≤ i → i < lo + l → kv key (arrOf st1) i ≤ kv key (arrOf st1) (lo + k)) ∧ ∀ i, lo + r ≤ i → i < lo + k → kv key (arrOf st1) (lo + k) ≤ kv key (arrOf st1) i)
      (Q := fun c st' => st1 = st' ∧ ∃ l r, c = (none, l, r) ∧ l = r ∧ r ≤ k ∧ (∀ i, lo ≤ i → i < lo + l → kv key (arrOf st1) i ≤ kv key (arrOf st1) (lo + k)) ∧ ∀ i, lo + r ≤ i → i < lo + k → kv key (arrOf st1) (lo + k) ≤ kv key (arrOf st1) i) ?ps ?pe ?pi) ?pp)
    case pi => exact ⟨rfl, 0, k, rfl, by omega, by omega, by omega, fun i a b => by omega, fun i a b => by omega⟩
    case pe =>
      rintro c st' ⟨rfl, l, r, rfl, y1, y2, y3, y4, y5⟩
      exact ⟨rfl, l, r, rfl, by omega, y2, y4, y5⟩
    case ps =>
      rintro x c st' _ hx ⟨rfl, l, r, rfl, y1, y2, y3, y4, y5⟩
      dsimp only
      by_cases hge : l ≥ r
      · rw [if_pos hge]
        exact wpS_pure ⟨rfl, l, r, rfl, by omega, y2, y4, y5⟩
      · rw [if_neg hge]
        refine wpS_bind (wp_ltAt hL G (by omega) (by omega) ?_)
        dsimp only
        by_cases hw : kv key (arrOf st1) (lo + k) < kv key (arrOf st1) (lo + (l + r) / 2)
        · rw [decide_eq_true hw, if_pos rfl]
          exact wpS_pure ⟨rfl, l, _, rfl, by omega, by omega, by omega, y4, fun i a b => Nat.le_trans (Nat.le_of_lt hw) (z _ i (by omega) (by omega) (by omega))⟩
        · rw [decide_eq_false hw, if_neg (by decide)]
          exact wpS_pure ⟨rfl, _, r, rfl, by omega, by omega, by omega, fun i a b => Nat.le_trans (z i (lo + (l + r) / 2) a (by omega) (by omega)) (by omega), y5⟩
    rintro c st' ⟨rfl, l, r, rfl, rfl, y2, y4, y5⟩
    dsimp only
    show wpS _ _ _ _ (moveDown' (lo + k) (lo + l) >>= fun _ => pure (ForInStep.yield (none, ()))) _ _
    rw [moveDown'_eq]
    refine wpS_bind (wpS_modify (wpS_pure ⟨rfl, G.set (bubble_perm _ _ _) rfl rfl, F.trans ⟨rfl, fun i hi => ?_⟩, fun i j a b c => ?_⟩))
    · show kv key (bubble (arrOf st1) (lo + k) (lo + k - (lo + l))) i = _
      rw [kv_bubble k1 (by omega), if_neg (by omega), if_neg (by omega)]
    · show kv key (bubble (arrOf st1) (lo + k) (lo + k - (lo + l))) i ≤ kv key (bubble (arrOf st1) (lo + k) (lo + k - (lo + l))) j
      rw [kv_bubble k1 (by omega), kv_bubble k1 (by omega), show lo + k - (lo + k - (lo + l)) = lo + l by omega]
      repeat' split
      all_goals first
        | (exfalso; omega)
        | exact Nat.le_refl _
        | exact y4 _ (by omega) (by omega)
        | exact y5 _ (by omega) (by omega)
        | exact z _ _ (by omega) (by omega) (by omega)
end
end TS

set_option maxRecDepth 100000
namespace TS
open PySem PyProof.Rows
section
variable {M : Model} {A : Around} {E : Value → Shared → Prop} {s : Shared} {key : Keyed → Nat} {a₀ : Array Keyed} {kd : SortKind}
theorem mono_r {arr : Array Keyed} {p : Keyed} {base n : Nat} (h : Srt key arr base (base + n)) (i j : Nat) (hij : i ≤ j) (hj : j < n) (z : beyB key false p arr base j = true) : beyB key false p arr base i = true := by
  unfold beyB at z ⊢
  simp at z ⊢
  exact Nat.le_trans (h _ _ (by omega) (by omega) (by omega)) z
theorem mono_l {arr : Array Keyed} {p : Keyed} {base n : Nat} (h : Srt key arr base (base + n)) (i j : Nat) (hij : i ≤ j) (hj : j < n) (z : beyB key true p arr base j = true) : beyB key true p arr base i = true := by
  unfold beyB at z ⊢
  simp at z ⊢
  exact Nat.lt_of_le_of_lt (h _ _ (by omega) (by omega) (by omega)) z
theorem wp_set {x st : SortSt} {Q : PUnit → SortSt → Prop} (h : Q ⟨⟩ x) : wpS M A E s (set x : StateT SortSt Sem PUnit) Q st := by
  unfold wpS; rw [StateT.run_set]; exact wpAny_pure ⟨rfl, h⟩
theorem Sub.extract {S0 : List Keyed} {arr : Array Keyed} (h : Sub S0 arr) (i j : Nat) : Sub S0 (arr.extract i j) := fun k hk => by
  rw [Array.getElem_extract]; exact h _ _
theorem list_at {α : Type} {l1 l2 : List α} {x y : α} : (l1 ++ x :: y :: l2)[l1.length]? = some x ∧ (l1 ++ x :: y :: l2)[l1.length + 1]? = some y := by
  constructor
  · simp
  · rw [List.getElem?_append_right (by omega)]; simp
theorem list_join {α : Type} {l1 l2 : List α} {x y z : α} : ((l1 ++ x :: y :: l2).set l1.length z).eraseIdx (l1.length + 1) = l1 ++ z :: l2 := by
  rw [List.set_append_right _ _ (by omega), Nat.sub_self, List.eraseIdx_append_of_length_le (by omega), show l1.length + 1 - l1.length = 1 by omega]
  rfl
abbrev Pend := List (Nat × Nat × Nat)
theorem wp_mergeAt (hL : LtOk M A E s kd a₀.toList key) {st : SortSt} (h : Good key a₀ kd st) {l1 l2 : Pend} {sa na pw sb nb pq i : Nat} (hp : (pendingOf st).toList = l1 ++ (sa, na, pw) :: (sb, nb, pq) :: l2)
    (hi : i = l1.length) {hh : Nat} (hR : Runs key (arrOf st) 0 (pendingOf st).toList hh) (hhs : hh ≤ a₀.size) {Q : Bool → SortSt → Prop}
    (q : ∀ st', Good key a₀ kd st' → (pendingOf st').toList = l1 ++ (sa, na + nb, pw) :: l2 → Runs key (arrOf st') 0 (pendingOf st').toList hh → (∀ i, hh ≤ i → kv key (arrOf st') i = kv key (arrOf st) i) → Q true st') : wpS M A E s (mergeAt' i) Q st := by
  subst hi
  rw [hp] at hR
  obtain ⟨mid, r1, rfl, n1, s1, rfl, n2, s2, r2⟩ := Runs.app.mp hR
  have hle := r2.le
  have e1 : (pendingOf st)[l1.length]? = some (sa, na, pw) := by rw [← Array.getElem?_toList, hp]; exact list_at.1
  have e2 : (pendingOf st)[l1.length + 1]? = some (sa + na, nb, pq) := by rw [← Array.getElem?_toList, hp]; exact list_at.2
  refine wpS_bind (wpS_get ?_)
  dsimp only
  rw [e1, e2]
  dsimp only
  refine wpS_bind (wp_set ?_)
  have hsz := h.size
  have hb : sa + na < (arrOf st).size := by omega
  have F : ∀ (arr' : Array Keyed) (st' : SortSt), arrOf st' = arr' → kindOf st' = kindOf st → failedOf st' = failedOf st → pendingOf st' = ((pendingOf st).setIfInBounds l1.length (sa, na + nb, pw)).eraseIdxIfInBounds (l1.length + 1) →
      arr'.Perm (arrOf st) → Srt key arr' sa (sa + (na + nb)) → (∀ i, i < sa ∨ sa + (na + nb) ≤ i → kv key arr' i = kv key (arrOf st) i) → Q true st' := by
    intro arr' st' ea ek ef ep hperm hs hout
    have epl : (pendingOf st').toList = l1 ++ (sa, na + nb, pw) :: l2 := by
      rw [ep, Array.toList_eraseIdxIfInBounds, Array.toList_setIfInBounds, hp]
      exact list_join
    refine q st' (h.set (by rw [ea]; exact hperm) ek ef) epl ?_ fun i hi => by rw [ea]; exact hout i (.inr (by omega))
    rw [epl, ea]
    exact hR.join hs hout
  refine wpS_bind (wp_elem hb ?_)
  refine wpS_bind (wp_gallop hL (h.sub _ hb) h.sub (by omega) (by omega) (by exact h.kind) (mono_r s1) fun k k1 k2 k3 => ?_)
  dsimp only
  have kb := kv_at key hb
  by_cases z1 : na - k = 0
  · rw [if_pos (beq_iff_eq.mpr z1)]
    refine wpS_pure (F (arrOf st) _ rfl rfl rfl rfl (.refl _) (fun i j a b c => ?_) fun _ _ => rfl)
    by_cases c1 : j < sa + na
    · exact s1 i j a b c1
    · by_cases c2 : i < sa + na
      · have y1 := right_t (k2 (i - sa) (by omega))
        rw [show sa + (i - sa) = i by omega] at y1
        have := s2 (sa + na) j (by omega) (by omega) (by omega)
        omega
      · exact s2 i j (by omega) b (by omega)
  rw [if_neg (fun z => z1 (beq_iff_eq.mp z))]
  have hla : sa + k + (na - k) - 1 < (arrOf st).size := by omega
  refine wpS_bind (wp_elem hla ?_)
  refine wpS_bind (wp_gallop hL (h.sub _ hla) h.sub (by omega) (by omega) (by exact h.kind) (mono_l s2) fun l g1 g2 g3 => ?_)
  dsimp only
  have eq1 : sa + k + (na - k) - 1 = sa + na - 1 := by omega
  have ka := kv_at key hla
  have ka2 : kv key (arrOf st) (sa + k + (na - k) - 1) = kv key (arrOf st) (sa + na - 1) := by rw [eq1]
  have low : ∀ i, sa ≤ i → i < sa + k → kv key (arrOf st) i ≤ kv key (arrOf st) (sa + na) := fun i a b => by
    have y1 := right_t (k2 (i - sa) (by omega))
    rw [show sa + (i - sa) = i by omega] at y1
    omega
  have low2 : ∀ i, sa + k ≤ i → i < sa + na → kv key (arrOf st) (sa + na) ≤ kv key (arrOf st) i := fun i a b => by
    have y1 := right_f (k3 (i - sa) (by omega) (by omega))
    rw [show sa + (i - sa) = i by omega] at y1
    omega
  have top : ∀ j, sa + na + l ≤ j → j < sa + na + nb → kv key (arrOf st) (sa + na - 1) ≤ kv key (arrOf st) j := fun j a b => by
    have y1 := left_f (g3 (j - (sa + na)) (by omega) (by omega))
    rw [show sa + na + (j - (sa + na)) = j by omega] at y1
    omega
  have top2 : ∀ j, sa + na ≤ j → j < sa + na + l → kv key (arrOf st) j ≤ kv key (arrOf st) (sa + na - 1) := fun j a b => by
    have y1 := left_t (g2 (j - (sa + na)) (by omega))
    rw [show sa + na + (j - (sa + na)) = j by omega] at y1
    omega
  by_cases z2 : l = 0
  · rw [if_pos (beq_iff_eq.mpr z2)]
    refine wpS_pure (F (arrOf st) _ rfl rfl rfl rfl (.refl _) (fun i j a b c => ?_) fun _ _ => rfl)
    by_cases c1 : j < sa + na
    · exact s1 i j a b c1
    · by_cases c2 : i < sa + na
      · exact Nat.le_trans (s1 i (sa + na - 1) a (by omega) (by omega)) (top j (by omega) (by omega))
      · exact s2 i j (by omega) b (by omega)
  rw [if_neg (fun z => z2 (beq_iff_eq.mp z))]
  have xs : ((arrOf st).extract (sa + k) (sa + na)).size = na - k := by rw [Array.size_extract]; omega
  have ys : ((arrOf st).extract (sa + na) (sa + na + l)).size = l := by rw [Array.size_extract]; omega
  have sx : Srt key ((arrOf st).extract (sa + k) (sa + na)) 0 ((arrOf st).extract (sa + k) (sa + na)).size := Srt.extract (fun i j a b c => s1 i j (by omega) b c) (by omega)
  have sy : Srt key ((arrOf st).extract (sa + na) (sa + na + l)) 0 ((arrOf st).extract (sa + na) (sa + na + l)).size := Srt.extract (fun i j a b c => s2 i j a b (by omega)) (by omega)
  have c0 : ∀ i, i < ((arrOf st).extract (sa + k) (sa + na)).size → kv key ((arrOf st).extract (sa + na) (sa + na + l)) 0 ≤ kv key ((arrOf st).extract (sa + k) (sa + na)) i := fun i a => by
    rw [kv_extract (by omega) (by omega), kv_extract (by omega) (by omega)]
    exact low2 _ (by omega) (by omega)
  have c1 : ∀ j, j < ((arrOf st).extract (sa + na) (sa + na + l)).size → kv key ((arrOf st).extract (sa + na) (sa + na + l)) j ≤ kv key ((arrOf st).extract (sa + k) (sa + na)) (((arrOf st).extract (sa + k) (sa + na)).size - 1) := fun j a => by
    rw [kv_extract (by omega) (by omega), kv_extract (by omega) (by omega), xs, show sa + k + (na - k - 1) = sa + na - 1 by omega]
    exact top2 _ (by omega) (by omega)
  have W : ∀ (m : Array Keyed) (st' : SortSt), SameG (SortSt.mk' (kindOf st) (arrOf st) (((pendingOf st).setIfInBounds l1.length (sa, na + nb, pw)).eraseIdxIfInBounds (l1.length + 1)) (gallopOf st) (failedOf st)) st' → Whole key ((arrOf st).extract (sa + k) (sa + na)) ((arrOf st).extract (sa + na) (sa + na + l)) m →
      Q true (setArr st' (back (sa + k) m.toList 0 (arrOf st'))) := by
    intro m st' g w
    obtain ⟨p1, p2⟩ := back_perm (by omega) (by omega) (by omega) w
    refine F (back (sa + k) m.toList 0 (arrOf st)) _ (by show back _ _ _ (arrOf st') = _; rw [g.2.1]) g.1 g.2.2.2 g.2.2.1 p2 (back_srt (by omega) (by omega) (by omega) (by omega) (by omega) w s1 (fun i j a b c => s2 i j a b (by omega)) low fun j a b => top j a (by omega)) fun i a => ?_
    rw [kv_back (by omega), if_neg (by omega)]
  have fin : ∀ (m : Array Keyed) (st' : SortSt), SameG (SortSt.mk' (kindOf st) (arrOf st) (((pendingOf st).setIfInBounds l1.length (sa, na + nb, pw)).eraseIdxIfInBounds (l1.length + 1)) (gallopOf st) (failedOf st)) st' → failedOf st' = none := fun m st' g => g.2.2.2.trans h.ok
  by_cases z3 : na - k ≤ l
  · rw [if_pos z3]
    refine wpS_bind (wp_mergeLo hL (h.sub.extract _ _) (h.sub.extract _ _) (by omega) (by omega) sx sy (c0 0 (by omega)) c1 (by exact h.kind) fun m st' g w => ?_)
    refine wpS_bind (wpS_modify (wpS_bind (wpS_get ?_)))
    show wpS _ _ _ _ (pure (failedOf st').isNone) Q (setArr st' (back (sa + k) m.toList 0 (arrOf st')))
    rw [fin m st' g]
    exact wpS_pure (W m st' g w)
  · rw [if_neg z3]
    refine wpS_bind (wp_mergeHi hL (h.sub.extract _ _) (h.sub.extract _ _) (by omega) (by omega) sx sy c0 c1 (by exact h.kind) fun m st' g w => ?_)
    refine wpS_bind (wpS_modify (wpS_bind (wpS_get ?_)))
    show wpS _ _ _ _ (pure (failedOf st').isNone) Q (setArr st' (back (sa + k) m.toList 0 (arrOf st')))
    rw [fin m st' g]
    exact wpS_pure (W m st' g w)
theorem Runs.repow {arr : Array Keyed} {hi pw : Nat} : ∀ {l : Pend} {i lo : Nat}, Runs key arr lo l hi → Runs key arr lo (l.modify i fun t => (t.1, t.2.1, pw)) hi
  | [], i, lo, h => by simpa using h
  | (s, n, p) :: r, 0, lo, h => by
    rw [List.modify_zero_cons]
    exact h
  | (s, n, p) :: r, i + 1, lo, h => by
    rw [List.modify_succ_cons]
    exact ⟨h.1, h.2.1, h.2.2.1, Runs.repow h.2.2.2⟩
theorem split_at {α : Type} : ∀ {l : List α} {i : Nat}, i + 1 < l.length → ∃ l1 x y l2, l = l1 ++ x :: y :: l2 ∧ i = l1.length
  | [], i, h => by simp at h
  | [x], i, h => by simp at h
  | x :: y :: r, 0, _ => ⟨[], x, y, r, rfl, rfl⟩
  | x :: y :: r, i + 1, h => by
    obtain ⟨l1, u, v, l2, e, e2⟩ := split_at (l := y :: r) (i := i) (by simpa using h)
    exact ⟨x :: l1, u, v, l2, by rw [e]; rfl, by rw [e2]; rfl⟩
theorem wp_sortRuns (hL : LtOk M A E s kd a₀.toList key) {st : SortSt} (h : Good key a₀ kd st) (hp : pendingOf st = #[]) (h2 : 2 ≤ a₀.size) {Q : Unit → SortSt → Prop}
    (q : ∀ st', Good key a₀ kd st' → Srt key (arrOf st') 0 a₀.size → Q () st') : wpS M A E s sortRuns' Q st := by
  refine wpS_bind (wpS_get ?_)
  dsimp only
  have hsz : (sortPriv% PySem.Builtin.SortState.a) st = arrOf st := rfl
  simp only [hsz, h.size]
  generalize (sortPriv% PySem.Builtin.minRun) a₀.size a₀.size 0 = mr
  refine wpS_bind (wpS_mono (wpS_forRange (I := fun x c st' => ∃ lo, c = (none, lo) ∧ Good key a₀ kd st' ∧ Runs key (arrOf st') 0 (pendingOf st').toList lo ∧ lo ≤ a₀.size ∧ x ≤ lo)
    (Q := fun c st' => c = (none, a₀.size) ∧ Good key a₀ kd st' ∧ Runs key (arrOf st') 0 (pendingOf st').toList a₀.size) ?os ?oe ?oi) ?op)
  case oi => exact ⟨0, rfl, h, by rw [hp]; rfl, by omega, by omega⟩
  case oe =>
    rintro c st' ⟨lo, rfl, g, r, z1, z2⟩
    have e : lo = a₀.size := by omega
    subst e
    exact ⟨rfl, g, r⟩
  case os =>
    rintro x c st1 _ hx ⟨lo, rfl, g1, r1, z1, z2⟩
    dsimp only
    by_cases hge : lo ≥ a₀.size
    · rw [if_pos hge]
      have e : lo = a₀.size := by omega
      subst e
      exact wpS_pure ⟨rfl, g1, r1⟩
    rw [if_neg hge]
    refine wpS_bind (wp_countRun hL g1 (by omega) (by omega) fun N st2 g2 f2 n1 n2 s2 => ?_)
    dsimp only
    have r2 : Runs key (arrOf st2) 0 (pendingOf st2).toList lo := by
      rw [f2.1]
      exact r1.same fun i _ b => f2.2 i b
    by_cases hmr : N < mr
    focus
      rw [if_pos hmr]
      refine wpS_bind (wpS_lift (wpAny_rule ⟨rfl, ?_⟩))
      obtain ⟨N3, hN⟩ : ∃ N', min (a₀.size - lo) mr = N' := ⟨_, rfl⟩
      rw [hN]
      refine wpS_bind (wp_binarySort hL g2 (by omega) n1 (by omega) s2 fun st3 g3 f3 s3 => ?_)
      rw [if_neg (by decide)]
      have r3 : Runs key (arrOf st3) 0 (pendingOf st3).toList lo := by
        rw [f3.1]
        exact r2.same fun i _ b => f3.2 i b
      have n3 : 1 ≤ N3 ∧ lo + N3 ≤ a₀.size := by omega
    rotate_left 1
    focus
      rw [if_neg hmr]
      obtain ⟨N3, hN⟩ : ∃ N', N = N' := ⟨_, rfl⟩
      obtain ⟨st3, hst⟩ : ∃ st', st2 = st' := ⟨_, rfl⟩
      rw [hN, hst]
      have g3 := g2
      have r3 := r2
      have s3 := s2
      rw [hst] at g3 r3 s3
      rw [hN] at s3
      have n3 : 1 ≤ N3 ∧ lo + N3 ≤ a₀.size := by omega
    all_goals
      clear hmr r2 s2 n2 n1 f2 g2
      refine wpS_bind (wpS_get ?_)
      have push : ∀ (st4 : SortSt), Good key a₀ kd st4 → Runs key (arrOf st4) 0 (pendingOf st4).toList lo → Srt key (arrOf st4) lo (lo + N3) → Good key a₀ kd (setPending st4 ((pendingOf st4).push (lo, N3, 0))) ∧ Runs key (arrOf (setPending st4 ((pendingOf st4).push (lo, N3, 0)))) 0 (pendingOf (setPending st4 ((pendingOf st4).push (lo, N3, 0)))).toList (lo + N3) := fun st4 g r z => by
        refine ⟨g.set (.refl _) rfl rfl, ?_⟩
        show Runs key (arrOf st4) 0 ((pendingOf st4).push (lo, N3, 0)).toList (lo + N3)
        rw [Array.toList_push]
        exact Runs.app.mpr ⟨lo, r, rfl, n3.1, z, rfl⟩
      split
      · rename_i s1 n1 pz hback
        refine wpS_bind (wpS_mono (wpS_forRange (I := fun y c st' => c = (none, ()) ∧ Good key a₀ kd st' ∧ Runs key (arrOf st') 0 (pendingOf st').toList lo ∧ Srt key (arrOf st') lo (lo + N3))
          (Q := fun c st' => c = (none, ()) ∧ Good key a₀ kd st' ∧ Runs key (arrOf st') 0 (pendingOf st').toList lo ∧ Srt key (arrOf st') lo (lo + N3)) ?_ (fun c st' z => z) ⟨rfl, g3, r3, s3⟩) ?_)
        · rintro y c st4 _ hy ⟨rfl, g4, r4, s4⟩
          refine wpS_bind (wpS_get ?_)
          by_cases hs1 : (pendingOf st4).size > 1
          · obtain ⟨l1, xx, yy, l2, el, el2⟩ := split_at (l := (pendingOf st4).toList) (i := (pendingOf st4).size - 2) (by simp; omega)
            obtain ⟨sa, na, pw⟩ := xx
            obtain ⟨sb, nb, pq⟩ := yy
            have e1 : (pendingOf st4)[(pendingOf st4).size - 2]? = some (sa, na, pw) := by rw [← Array.getElem?_toList, el, el2]; exact list_at.1
            rw [if_pos hs1, e1]
            dsimp only
            split
            · exact wpS_pure ⟨rfl, g4, r4, s4⟩
            · refine wpS_bind (wp_mergeAt hL g4 el el2 r4 z1 fun st5 g5 p5 r5 k5 => ?_)
              rw [if_neg (by decide)]
              exact wpS_pure ⟨rfl, g5, r5, fun i j a b c => by rw [k5 i a, k5 j (by omega)]; exact s4 i j a b c⟩
          · rw [if_neg hs1]
            exact wpS_pure ⟨rfl, g4, r4, s4⟩
        · rintro c st4 ⟨rfl, g4, r4, s4⟩
          dsimp only
          refine wpS_bind (wpS_modify ?_)
          refine wpS_bind (wpS_modify ?_)
          have P := push (setPending st4 ((pendingOf st4).modify ((pendingOf st4).size - 1) fun t => (t.1, t.2.1, power' a₀.size (2 * s1 + n1) (2 * s1 + n1 + n1 + N3) a₀.size))) (g4.set (.refl _) rfl rfl) (by
            show Runs key (arrOf st4) 0 ((pendingOf st4).modify ((pendingOf st4).size - 1) _).toList lo
            rw [Array.toList_modify]
            exact r4.repow) s4
          exact wpS_pure ⟨_, rfl, P.1, P.2, n3.2, by omega⟩
      · refine wpS_bind (wpS_modify ?_)
        have P := push st3 g3 r3 s3
        exact wpS_pure ⟨_, rfl, P.1, P.2, n3.2, by omega⟩
  rintro c st1 ⟨rfl, g1, r1⟩
  dsimp only
  refine wpS_bind (wpS_mono (wpS_forRange (I := fun x c st' => c = (none, ()) ∧ Good key a₀ kd st' ∧ Runs key (arrOf st') 0 (pendingOf st').toList a₀.size ∧ (pendingOf st').size + x ≤ a₀.size + 1)
    (Q := fun c st' => c = (none, ()) ∧ Good key a₀ kd st' ∧ Runs key (arrOf st') 0 (pendingOf st').toList a₀.size ∧ (pendingOf st').size ≤ 1) ?ls ?le ?li) ?lp)
  case li =>
    have := r1.le
    rw [Array.length_toList] at this
    exact ⟨rfl, g1, r1, by omega⟩
  case le =>
    rintro c st' ⟨rfl, g, r, z⟩
    exact ⟨rfl, g, r, by omega⟩
  case lp =>
    rintro c st' ⟨rfl, g, r, z⟩
    refine wpS_pure (q st' g ?_)
    rw [← Array.length_toList] at z
    match (pendingOf st').toList, r, z with
    | [], r, _ =>
      have : 0 = a₀.size := r
      omega
    | [(s, n, p)], r, _ =>
      obtain ⟨rfl, _, y, e⟩ := r
      have e : 0 + n = a₀.size := e
      rw [e] at y
      exact y
    | _ :: _ :: _, _, z => simp at z
  case ls =>
    rintro x c st2 _ hx ⟨rfl, g2, r2, z2⟩
    refine wpS_bind (wpS_get ?_)
    by_cases hs1 : (pendingOf st2).size ≤ 1
    · rw [if_pos hs1]
      exact wpS_pure ⟨rfl, g2, r2, hs1⟩
    rw [if_neg hs1]
    have fin : ∀ i, i + 1 < (pendingOf st2).size → wpS M A E s (mergeAt' i) (fun b st' => b = true ∧ Good key a₀ kd st' ∧ Runs key (arrOf st') 0 (pendingOf st').toList a₀.size ∧ (pendingOf st').size + 1 = (pendingOf st2).size) st2 := by
      intro i hi
      obtain ⟨l1, xx, yy, l2, el, el2⟩ := split_at (l := (pendingOf st2).toList) (i := i) (by simpa using hi)
      obtain ⟨sa, na, pw⟩ := xx
      obtain ⟨sb, nb, pq⟩ := yy
      refine wp_mergeAt hL g2 el el2 r2 (Nat.le_refl _) fun st5 g5 p5 r5 k5 => ⟨rfl, g5, r5, ?_⟩
      rw [← Array.length_toList, p5, ← Array.length_toList, el]
      simp
      omega
    refine wpS_bind (wpS_mono (fin _ ?_) ?_)
    · have es : ((sortPriv% PySem.Builtin.SortState.pending) st2).size = (pendingOf st2).size := rfl
      repeat' split
      all_goals omega
    · rintro b st3 ⟨rfl, g3, r3, z3⟩
      rw [if_neg (by decide)]
      exact wpS_pure ⟨rfl, g3, r3, by omega⟩
end
end TS

set_option maxRecDepth 100000
namespace TS
open PySem PySem.W PyProof.Rows
/-- a tuple of three small numbers, and its key -/
def Tup3 (h : Heap) (v : Value) (c : Nat) : Prop :=
  ∃ (a : Addr) (o : Obj) (n p q r : Nat) (t u w : Tok), v = .ref a ∧ h.get? a = some o ∧ o.cls = .type "tuple" ∧ o.data = .seq #[.int p t, .int q u, .int r w] n ∧ p < 1000 ∧ q < 1000 ∧ r < 1000 ∧ c = p * 1000000 + q * 1000 + r
section
variable {prog : Program} {w : World} {A : Around} {E : Value → Shared → Prop} {s : Shared} {key : Value → Nat}
theorem ltOk_tup {S0 : List Keyed} (hT : ∀ x ∈ S0, Tup3 s.heap x.1 (key x.1)) : LtOk (model prog w) A E s (tuples' true) S0 (fun x => key x.1) := by
  intro x y st Q hx hy hk fin
  obtain ⟨x1, x2⟩ := x
  obtain ⟨y1, y2⟩ := y
  obtain ⟨a, o, n, p, q, r, t1, t2, t3, e1, ho, _, hd, b1, b2, b3, ek⟩ := hT _ hx
  obtain ⟨a', o', n', p', q', r', t1', t2', t3', e1', ho', _, hd', b1', b2', b3', ek'⟩ := hT _ hy
  dsimp only at e1 e1' ek ek' fin
  subst e1; subst e1'
  rw [lt'_eq]
  refine wpS_bind (wpS_get ?_)
  rw [hk]
  have leaf : ∀ b : Bool, b = decide (p * 1000000 + q * 1000 + r < p' * 1000000 + q' * 1000 + r') → wpS (model prog w) A E s (pure (some b)) Q st := fun b hb => by
    have e : b = decide (key (.ref a) < key (.ref a')) := by
      rw [hb]; exact decide_eq_decide.mpr (by rw [ek, ek'])
    rw [e]; exact wpS_pure fin
  refine wpS_bind (wpS_lift (wpAny_attempt (kat_lt (b := true) ho hd ho' hd' ?_)))
  refine kat_cons (wpAny_eqBool_int ?_)
  by_cases c1 : p = p'
  · rw [show ((p : Int) == (p' : Int)) = true from beq_iff_eq.mpr (by omega)]
    refine kat_yes (kat_cons (wpAny_eqBool_int ?_))
    by_cases c2 : q = q'
    · rw [show ((q : Int) == (q' : Int)) = true from beq_iff_eq.mpr (by omega)]
      refine kat_yes (kat_cons (wpAny_eqBool_int ?_))
      by_cases c3 : r = r'
      · rw [show ((r : Int) == (r' : Int)) = true from beq_iff_eq.mpr (by omega)]
        refine kat_yes (kat_nil ⟨rfl, leaf _ ?_⟩)
        rw [decide_eq_false (by simp), decide_eq_false (by omega)]
      · rw [show ((r : Int) == (r' : Int)) = false from beq_eq_false_iff_ne.mpr (by omega)]
        exact kat_no (kat_one _ _ (wpAny_lt_int ⟨rfl, leaf _ (decide_eq_decide.mpr (by omega))⟩))
    · rw [show ((q : Int) == (q' : Int)) = false from beq_eq_false_iff_ne.mpr (by omega)]
      exact kat_no (kat_one _ _ (wpAny_lt_int ⟨rfl, leaf _ (decide_eq_decide.mpr (by omega))⟩))
  · rw [show ((p : Int) == (p' : Int)) = false from beq_eq_false_iff_ne.mpr (by omega)]
    exact kat_no (oneLt_int ⟨rfl, leaf _ (decide_eq_decide.mpr (by omega))⟩)
theorem kind_tup : ∀ {vs : List Value}, (∀ v ∈ vs, Tup3 s.heap v (key v)) → ∃ fs, KatTups s.heap vs fs ∧ fs.length = vs.length ∧ ∀ v ∈ fs, ∃ (n : Int) (t : Tok), v = .int n t
  | [], _ => ⟨[], .nil, rfl, fun v hv => by simp at hv⟩
  | v :: vs, h => by
    obtain ⟨fs, k1, k2, k3⟩ := kind_tup (vs := vs) fun u hu => h u (List.mem_cons_of_mem _ hu)
    obtain ⟨a, o, n, p, q, r, t1, t2, t3, rfl, ho, hc, hd, _⟩ := h _ List.mem_cons_self
    refine ⟨.int p t1 :: fs, .cons ho hc hd rfl k1, by rw [List.length_cons, List.length_cons, k2], fun u hu => ?_⟩
    rcases List.mem_cons.mp hu with rfl | hu
    · exact ⟨_, _, rfl⟩
    · exact k3 u hu
theorem pairs_key {vs : List Value} : (pairsOf vs).toList.map (fun x => key x.1) = vs.map key := by
  rw [pairsOf_toList]
  have : (vs.zip vs).map (fun x : Keyed => key x.1) = ((vs.zip vs).map Prod.fst).map key := by rw [List.map_map]; rfl
  rw [this, List.map_fst_zip (Nat.le_refl _)]
theorem sort_big {a : Addr} {vs : List Value} {n : Nat} {P : PySem.Fin → Shared → Prop} (ho : s.heap.get? a = some (seqObj "list" vs.toArray n)) (h2 : 2 ≤ vs.length) (hz : vs.length ≤ 1000) (hT : ∀ v ∈ vs, Tup3 s.heap v (key v)) (nd : (vs.map key).Nodup)
    (h : ∀ out : List Value, out.Perm vs → out.Pairwise (fun x y => key x ≤ key y) → P (.done (.ret .none)) { s with heap := sortedHeap s.heap a vs out.toArray }) : wpAny (model prog w) A (Builtin.«list.sort» ⟨[.ref a], []⟩) P E s := by
  have sl : 1000 ≤ sizeLine := by rw [sizeLine_eq]; omega
  rw [list_sort_plain]
  have ha : a < s.heap.objs.size := Heap.lt_size ho
  refine wpAny_bind (listItems_at ho rfl ?_)
  refine wpAny_bind (listUpdate_at ho rfl ?_ (by rw [List.size_toArray]; omega) (Nat.zero_le _))
  obtain ⟨e1, ho1⟩ : ∃ e1, (s.heap.update a (Obj.mapSeq fun _ => #[])).get? a = some (seqObj "list" #[] e1) := ⟨_, get?_update_seq ho fun _ => #[]⟩
  refine wpAny_bind (seqEpoch_at ho1 rfl ?_)
  refine wpAny_bind (wpAny_newTuple ?_ (by show vs.length ≤ _; omega))
  refine wpAny_bind (wpAny_newList ?_ (Nat.zero_le _))
  refine wpAny_holding ?_
  have keep : ∀ b o, b ≠ a → s.heap.get? b = some o → (((s.heap.update a (Obj.mapSeq fun _ => #[])).push (seqObj "tuple" vs.toArray 0)).push (seqObj "list" #[] 0)).get? b = some o := fun b o hne e => by
    refine Heap.get?_push_of_some _ (Heap.get?_push_of_some _ ?_)
    rw [Heap.get?_update_ne _ _ _ _ hne]
    exact e
  have ho6 : (((s.heap.update a (Obj.mapSeq fun _ => #[])).push (seqObj "tuple" vs.toArray 0)).push (seqObj "list" #[] 0)).get? a = some (seqObj "list" #[] e1) :=
    Heap.get?_push_of_some _ (Heap.get?_push_of_some _ ho1)
  have hT6 : ∀ v ∈ vs, Tup3 (((s.heap.update a (Obj.mapSeq fun _ => #[])).push (seqObj "tuple" vs.toArray 0)).push (seqObj "list" #[] 0)) v (key v) := fun v hv => by
    obtain ⟨b, o, n, p, q, r, t1, t2, t3, rfl, hb, hc, rest⟩ := hT v hv
    refine ⟨b, o, n, p, q, r, t1, t2, t3, rfl, keep b o (fun z => ?_) hb, hc, rest⟩
    rw [z, ho] at hb
    cases hb
    exact absurd (show Value.type "list" = Value.type "tuple" from hc) (by decide)
  show wpAny (model prog w) A _ P E { s with heap := ((s.heap.update a (Obj.mapSeq fun _ => #[])).push (seqObj "tuple" vs.toArray 0)).push (seqObj "list" #[] 0) }
  dsimp only
  have hn2 : ¬ vs.toArray.size < 2 := by rw [List.size_toArray]; omega
  rw [if_neg hn2, if_neg hn2]
  obtain ⟨fs, k1, k2, k3⟩ := kind_tup (s := { s with heap := ((s.heap.update a (Obj.mapSeq fun _ => #[])).push (seqObj "tuple" vs.toArray 0)).push (seqObj "list" #[] 0) }) hT6
  refine wpAny_bind (kat_kind (T := .type "int") k1 (by omega) (fun v hv => ?_) (by decide) ?_)
  · obtain ⟨m, t, rfl⟩ := k3 v hv
    exact Looks.of_pure rfl
  have hk : (Value.type "int" != Value.type "tuple") = true := by decide
  rw [hk]
  have G0 : Good (fun x : Keyed => key x.1) (pairsOf vs) (tuples' true) (SortSt.mk' (tuples' true) (vs.toArray.zip vs.toArray) #[] 7 none) := ⟨.refl _, rfl, rfl, by rw [pairs_key]; exact nd⟩
  refine wpAny_bind (wpAny_mono (wp_sortRuns (key := fun x : Keyed => key x.1) (a₀ := pairsOf vs) (Q := fun _ st' => Good (fun x : Keyed => key x.1) (pairsOf vs) (tuples' true) st' ∧ Srt (fun x : Keyed => key x.1) (arrOf st') 0 (pairsOf vs).size)
    (ltOk_tup fun x hx => ?_) G0 rfl (by rw [pairsOf_size]; omega) fun st' g z => ⟨g, z⟩) ?_ fun _ _ e => e)
  · rw [pairsOf_toList] at hx
    exact hT6 _ (mem_zip_self hx).2
  rintro ⟨⟨⟩, st'⟩ s' ⟨rfl, g, z⟩
  dsimp only at g z ⊢
  have hl : (arrOf st').toList.Perm (vs.zip vs) := by rw [← pairsOf_toList]; exact Array.perm_iff_toList_perm.mp g.perm
  have hmem : ∀ p, p ∈ (arrOf st').toList → p.1 = p.2 ∧ p.1 ∈ vs := fun p hp => mem_zip_self (hl.mem_iff.mp hp)
  have e2 : ((arrOf st').map (·.2)).toList = (arrOf st').toList.map Prod.fst := by
    rw [Array.toList_map]; exact List.map_congr_left fun p hp => (hmem p hp).1.symm
  have p2 : ((arrOf st').map (·.2)).toList.Perm vs := by
    rw [e2]
    have := hl.map Prod.fst
    rwa [List.map_fst_zip (Nat.le_refl _)] at this
  have s2 : ((arrOf st').map (·.2)).toList.Pairwise (fun x y => key x ≤ key y) := by
    rw [e2, List.pairwise_map, List.pairwise_iff_getElem]
    intro i j hi hj hij
    have hi' : i < (arrOf st').size := by simpa using hi
    have hj' : j < (arrOf st').size := by simpa using hj
    have y := z i j (by omega) (by omega) (by rw [← g.size]; exact hj')
    rw [kv_at _ hi', kv_at _ hj'] at y
    simpa using y
  have fin := h _ p2 s2
  refine wpAny_bind (seqEpoch_at ho6 rfl ?_)
  refine wpAny_bind (listUpdate_at ho6 rfl ?_ (Nat.zero_le _) ?_)
  · rw [g.ok]
    simp only [bne_self_eq_false, Bool.false_eq_true, if_false]
    exact wpAny_pure fin
  · refine Nat.le_trans (Nat.le_of_eq ((Array.size_map ..).trans (g.size.trans (pairsOf_size _)))) ?_
    omega
theorem sorted_big {l : Addr} {vs : List Value} {Q : Value → Shared → Prop} (hl : s.heap.IsList l vs.toArray) (h2 : 2 ≤ vs.length) (hz : vs.length ≤ 1000) (hT : ∀ v ∈ vs, Tup3 s.heap v (key v)) (nd : (vs.map key).Nodup)
    (h : ∀ out : List Value, out.Perm vs → out.Pairwise (fun x y => key x ≤ key y) → Q (.ref (s.heap.objs.size + 1)) { s with heap := sortedAll s.heap vs out.toArray }) : wpAny (model prog w) A (call (.builtin "sorted") [.ref l]) Q E s := by
  have sl : 1000 ≤ sizeLine := by rw [sizeLine_eq]; omega
  refine Calls.call_function_entry kind_sorted plain_sorted entry_sorted (args_sorted1 _) ?_
  unfold Builtin.«sorted»
  refine wpAny_bind (m := checkCount "sorted" 1 1 _) (wpAny_pure ?_)
  refine wpAny_bind (collect_list hl ?_ (by omega))
  refine wpAny_bind (wpAny_newList ?_ (by omega))
  have hsz : ((s.heap.push (seqObj "list" #[] 0)).update s.heap.objs.size (Obj.mapSeq (· ++ vs.toArray))).objs.size = s.heap.objs.size + 1 := by
    rw [Heap.size_update, size_push']
  have hoL : (((s.heap.push (seqObj "list" #[] 0)).update s.heap.objs.size (Obj.mapSeq (· ++ vs.toArray))).push (seqObj "list" vs.toArray 0)).get? (s.heap.objs.size + 1) = some (seqObj "list" vs.toArray 0) := by
    rw [← hsz]; exact Heap.get?_push_size _ rfl
  have keep : ∀ b o, s.heap.get? b = some o → (((s.heap.push (seqObj "list" #[] 0)).update s.heap.objs.size (Obj.mapSeq (· ++ vs.toArray))).push (seqObj "list" vs.toArray 0)).get? b = some o := fun b o e => by
    have hlt : b < s.heap.objs.size := Heap.lt_size e
    refine Heap.get?_push_of_some _ ?_
    rw [Heap.get?_update_ne _ _ _ _ (Nat.ne_of_lt hlt)]
    exact Heap.get?_push_of_some _ e
  show wpAny _ _ _ _ _ { s with heap := ((s.heap.push (seqObj "list" #[] 0)).update s.heap.objs.size (Obj.mapSeq (· ++ vs.toArray))).push (seqObj "list" vs.toArray 0) }
  rw [hsz]
  refine wpAny_bind (wpAny_holding (wpAny_call_entry slot_list_sort ⟨_, hoL, rfl⟩ entry_list_sort (sort_big hoL h2 hz (fun v hv => ?_) nd fun out a1 a2 => ⟨_, rfl, wpAny_pure ⟨_, rfl, h out a1 a2⟩⟩) (args_list_sort _)))
  obtain ⟨b, o, n, p, q, r, t1, t2, t3, rfl, hb, rest⟩ := hT v hv
  exact ⟨b, o, n, p, q, r, t1, t2, t3, rfl, keep b o hb, rest⟩
end
end TS

namespace L2
open PySem PySem.Spec PyProof.Rows
/-- a tuple's names within a comprehension -/
theorem pg_tupK {X : Cx} {K : PySem.W.Frag} {pos : Pos} {es : List Expr} {k : Nat} {t : TGs} {n : Nat} (hK : X.K = K) (hc : X.calm = true) (h : PGs X es t)
    (hn : (assignEach es X.env).length = n := by rfl) (hst : (assignEach es X.env).findIdx? (·.1) = none := by rfl) : PG X (.Tuple es k pos) (gTup K n t) := by
  subst hK
  exact pg_tup hc h hn hst
end L2
namespace Sq
open PySem L2 PyProof.Rows
/-- a list of triples, as it lies there -/
def P3 (H : Hp) : List V → List (Nat × Nat × Nat) → Prop
  | [], [] => True
  | v :: xs, p :: ps => (∃ a, v = .ref a ∧ H a = some (.tup [.int (p.1 : Int), .int (p.2.1 : Int), .int (p.2.2 : Int)])) ∧ P3 H xs ps
  | _, _ => False
/-- the three numbers at a value -/
def trip (H : Hp) : Value → Nat × Nat × Nat
  | .ref a => match H a with
    | some (.tup [.int p, .int q, .int r]) => (p.toNat, q.toNat, r.toNat)
    | _ => (0, 0, 0)
  | _ => (0, 0, 0)
theorem trip_at {H : Hp} {a : Addr} {p : Nat × Nat × Nat} (h : H a = some (.tup [.int (p.1 : Int), .int (p.2.1 : Int), .int (p.2.2 : Int)])) : trip H (.ref a) = p := by
  unfold trip
  dsimp only
  rw [h]
  rfl
def Is3 (H : Hp) (v : Value) (p : Nat × Nat × Nat) : Prop := ∃ a, v = .ref a ∧ H a = some (.tup [.int (p.1 : Int), .int (p.2.1 : Int), .int (p.2.2 : Int)])
theorem P3.vals {H : Hp} : ∀ {xs : List V} {ps : List (Nat × Nat × Nat)} {its : List Value}, P3 H xs ps → Vals xs its → its.map (trip H) = ps ∧ ∀ v ∈ its, Is3 H v (trip H v)
  | [], [], _, _, .nil => ⟨rfl, fun v hv => by simp at hv⟩
  | _ :: _, p :: ps, _, ⟨⟨a, rfl, h⟩, r⟩, .cons (b := u) q t => by
    obtain ⟨e1, e2⟩ := P3.vals r t
    have hu : u = .ref a := q
    subst hu
    have et := trip_at h
    refine ⟨by rw [List.map_cons, e1, et], fun v hv => ?_⟩
    rcases List.mem_cons.mp hv with rfl | hv
    · rw [et]; exact ⟨a, rfl, h⟩
    · exact e2 v hv
theorem vals_P3 {H : Hp} : ∀ {out : List Value}, (∀ v ∈ out, Is3 H v (trip H v)) → ∃ zs, Vals zs out ∧ P3 H zs (out.map (trip H))
  | [], _ => ⟨[], .nil, trivial⟩
  | v :: out, h => by
    obtain ⟨zs, z1, z2⟩ := vals_P3 (out := out) fun u hu => h u (List.mem_cons_of_mem _ hu)
    obtain ⟨a, rfl, ha⟩ := h _ List.mem_cons_self
    exact ⟨.ref a :: zs, .cons rfl z1, ⟨a, rfl, ha⟩, z2⟩
section
variable {X : Cx}
/-- sorted of triples of small numbers, none twice -/
theorem call_sorted_tups : CallR X (.builtin "sorted") (fun xs H Q => ∃ (p : Addr) (ys : List V) (ps : List (Nat × Nat × Nat)), xs = [.ref p] ∧ SqL X.K H p ys ∧ P3 H ys ps ∧ 2 ≤ ps.length ∧ ps.length ≤ 1000 ∧ (∀ t ∈ ps, t.1 < 1000 ∧ t.2.1 < 1000 ∧ t.2.2 < 1000) ∧ (ps.map code).Nodup ∧
    ∀ (zs : List V) (qs : List (Nat × Nat × Nat)) (l : Addr), P3 H zs qs → qs.Perm ps → qs.Pairwise (fun x y => code x ≤ code y) → H l = none → Q (.ref l) (upd H l (.lst zs))) := by
  intro pins s σ H xs us Q I r h
  obtain ⟨p, ys, ps, rfl, hq, hP, h2, hz, hsm, nd, q⟩ := h
  obtain ⟨u, rfl, rx⟩ := vals1 r
  cases rx
  obtain ⟨its, rv, pl, _⟩ := I.list hq
  obtain ⟨e1, e2⟩ := hP.vals rv
  have hlen : its.length = ps.length := by rw [← e1, List.length_map]
  refine TS.sorted_big (key := fun v => code (trip H v)) pl.isList (by omega) (by omega) (fun v hv => ?_) ?_ fun out a1 a2 => ?_
  · obtain ⟨a, rfl, ha⟩ := e2 v hv
    obtain ⟨_, its', rv', o, ho, hc, n0, hd⟩ := I.hok a _ ha
    have hin : trip H (.ref a) ∈ ps := by rw [← e1]; exact List.mem_map_of_mem hv
    have b := hsm _ hin
    obtain ⟨v1, v2, v3, rfl, r1, r2, r3⟩ : ∃ v1 v2 v3, its' = [v1, v2, v3] ∧ RelV (.int ((trip H (.ref a)).1 : Int)) v1 ∧ RelV (.int ((trip H (.ref a)).2.1 : Int)) v2 ∧ RelV (.int ((trip H (.ref a)).2.2 : Int)) v3 := by
      cases rv' with | cons q1 t1 => cases t1 with | cons q2 t2 => cases t2 with | cons q3 t3 => cases t3; exact ⟨_, _, _, rfl, q1, q2, q3⟩
    obtain ⟨t1, rfl⟩ := r1
    obtain ⟨t2, rfl⟩ := r2
    obtain ⟨t3, rfl⟩ := r3
    exact ⟨a, o, n0, _, _, _, t1, t2, t3, rfl, ho, hc, hd, b.1, b.2.1, b.2.2, rfl⟩
  · rw [← e1, List.map_map] at nd
    exact nd
  obtain ⟨e, he⟩ := sortedAll_at s.heap its out.toArray
  have hfr : H (s.heap.objs.size + 1) = none := I.hok.fresh (Nat.le_succ _)
  obtain ⟨zs, z1, z2⟩ := vals_P3 (H := H) (out := out) fun v hv => e2 v (a1.mem_iff.mp hv)
  have zl : zs.length ≤ 1000 := by rw [z1.length, a1.length_eq]; omega
  refine ⟨.ref (s.heap.objs.size + 1), upd H (s.heap.objs.size + 1) (.lst zs), I.laid (t' := s.toks) (fun b o e => sortedAll_old e) (Nat.le_succ _) ?_, rfl, q zs _ _ z2 (by rw [← e1]; exact a1.map _) (by rw [List.pairwise_map]; exact a2) hfr⟩
  refine ⟨Nat.le_trans zl (by decide), out, e, z1, ?_⟩
  simpa [seqObj] using he
end
end Sq

namespace Sq
open PySem L2
set_option maxHeartbeats 4000000
/-- the top's statement at a place -/
def top (i : Nat) : Stmt := PySem.Challenge.pw_squarefield_k06_walks.main.body.getD i (.Pass ⟨0, 0, 0, 0⟩)
abbrev s_is_whole : Stmt := top 6
abbrev s_is_number : Stmt := top 7
abbrev s_whole_root : Stmt := top 8
abbrev s_pairs_of : Stmt := top 9
abbrev s_walks : Stmt := top 12
abbrev s_source : Stmt := top 13
abbrev s_is_walk : Stmt := top 14
abbrev s_common_divisor : Stmt := top 15
abbrev s__law_cell_at : Stmt := top 17
abbrev s__law_draw : Stmt := top 18
abbrev s__law_common : Stmt := top 19
abbrev s__law_tried : Stmt := top 20
abbrev s__law_made : Stmt := top 21
abbrev s__law_sources : Stmt := top 22
abbrev s__law_source_right : Stmt := top 23
abbrev s_law : Stmt := top 24
structure Adr where

structure Txt (K : PySem.W.Frag) (mg : Str → Option Value) (t : Adr) : Prop where
  z_isinstance : mg "isinstance" = none
  z_int : mg "int" = none
  z_bool : mg "bool" = none
  z_list : mg "list" = none
  z_tuple : mg "tuple" = none
  z_len : mg "len" = none
  z_all : mg "all" = none
  z_any : mg "any" = none
  z_sorted : mg "sorted" = none
  z_range : mg "range" = none
  z_max : mg "max" = none
  z_min : mg "min" = none
  g_MOST_NUMBER : ∃ u, mg "MOST_NUMBER" = some (.int 10000 u)
  g_MOST_THIRD : ∃ u, mg "MOST_THIRD" = some (.int 300 u)
  nodup : ([] : List Addr).Nodup
  h_is_whole : TopFn K mg "is_whole" s_is_whole ["value"]
  h_is_number : TopFn K mg "is_number" s_is_number ["value"]
  h_whole_root : TopFn K mg "whole_root" s_whole_root ["number"]
  h_pairs_of : TopFn K mg "pairs_of" s_pairs_of ["number"]
  h_walks : TopFn K mg "walks" s_walks ["most"]
  h_source : TopFn K mg "source" s_source ["walk"]
  h_is_walk : TopFn K mg "is_walk" s_is_walk ["value"]
  h_common_divisor : TopFn K mg "common_divisor" s_common_divisor ["one", "other"]
  h__law_cell_at : TopFn K mg "_law_cell_at" s__law_cell_at ["_law_script", "_law_k"]
  h__law_draw : TopFn K mg "_law_draw" s__law_draw ["_law_cell", "_law_k", "_law_many"]
  h__law_common : TopFn K mg "_law_common" s__law_common ["_law_one", "_law_other"]
  h__law_tried : TopFn K mg "_law_tried" s__law_tried ["_law_most"]
  h__law_made : TopFn K mg "_law_made" s__law_made ["_law_m", "_law_n", "_law_k"]
  h__law_sources : TopFn K mg "_law_sources" s__law_sources ["_law_most"]
  h__law_source_right : TopFn K mg "_law_source_right" s__law_source_right ["_law_walk", "_law_found"]
  h_law : TopFn K mg "law" s_law ["_law_script"]
theorem txt_mk {K : PySem.W.Frag} {h : Heap} {mg : Str → Option Value} (X : K.In h) (G : h.Ns mainGlobals mg)
    {u_MOST_NUMBER : Tok}
    {u_MOST_THIRD : Tok}
    {f_is_whole : Addr}
    {od_is_whole an_is_whole : Option Addr}
    {sl_is_whole : Array (Option Value)}
    {oc_is_whole kV_is_whole dc_is_whole pm_is_whole cd_is_whole ct_is_whole : Value}
    {f_is_number : Addr}
    {od_is_number an_is_number : Option Addr}
    {sl_is_number : Array (Option Value)}
    {oc_is_number kV_is_number dc_is_number pm_is_number cd_is_number ct_is_number : Value}
    {f_whole_root : Addr}
    {od_whole_root an_whole_root : Option Addr}
    {sl_whole_root : Array (Option Value)}
    {oc_whole_root kV_whole_root dc_whole_root pm_whole_root cd_whole_root ct_whole_root : Value}
    {f_pairs_of : Addr}
    {od_pairs_of an_pairs_of : Option Addr}
    {sl_pairs_of : Array (Option Value)}
    {oc_pairs_of kV_pairs_of dc_pairs_of pm_pairs_of cd_pairs_of ct_pairs_of : Value}
    {f_walks : Addr}
    {od_walks an_walks : Option Addr}
    {sl_walks : Array (Option Value)}
    {oc_walks kV_walks dc_walks pm_walks cd_walks ct_walks : Value}
    {f_source : Addr}
    {od_source an_source : Option Addr}
    {sl_source : Array (Option Value)}
    {oc_source kV_source dc_source pm_source cd_source ct_source : Value}
    {f_is_walk : Addr}
    {od_is_walk an_is_walk : Option Addr}
    {sl_is_walk : Array (Option Value)}
    {oc_is_walk kV_is_walk dc_is_walk pm_is_walk cd_is_walk ct_is_walk : Value}
    {f_common_divisor : Addr}
    {od_common_divisor an_common_divisor : Option Addr}
    {sl_common_divisor : Array (Option Value)}
    {oc_common_divisor kV_common_divisor dc_common_divisor pm_common_divisor cd_common_divisor ct_common_divisor : Value}
    {f__law_cell_at : Addr}
    {od__law_cell_at an__law_cell_at : Option Addr}
    {sl__law_cell_at : Array (Option Value)}
    {oc__law_cell_at kV__law_cell_at dc__law_cell_at pm__law_cell_at cd__law_cell_at ct__law_cell_at : Value}
    {f__law_draw : Addr}
    {od__law_draw an__law_draw : Option Addr}
    {sl__law_draw : Array (Option Value)}
    {oc__law_draw kV__law_draw dc__law_draw pm__law_draw cd__law_draw ct__law_draw : Value}
    {f__law_common : Addr}
    {od__law_common an__law_common : Option Addr}
    {sl__law_common : Array (Option Value)}
    {oc__law_common kV__law_common dc__law_common pm__law_common cd__law_common ct__law_common : Value}
    {f__law_tried : Addr}
    {od__law_tried an__law_tried : Option Addr}
    {sl__law_tried : Array (Option Value)}
    {oc__law_tried kV__law_tried dc__law_tried pm__law_tried cd__law_tried ct__law_tried : Value}
    {f__law_made : Addr}
    {od__law_made an__law_made : Option Addr}
    {sl__law_made : Array (Option Value)}
    {oc__law_made kV__law_made dc__law_made pm__law_made cd__law_made ct__law_made : Value}
    {f__law_sources : Addr}
    {od__law_sources an__law_sources : Option Addr}
    {sl__law_sources : Array (Option Value)}
    {oc__law_sources kV__law_sources dc__law_sources pm__law_sources cd__law_sources ct__law_sources : Value}
    {f__law_source_right : Addr}
    {od__law_source_right an__law_source_right : Option Addr}
    {sl__law_source_right : Array (Option Value)}
    {oc__law_source_right kV__law_source_right dc__law_source_right pm__law_source_right cd__law_source_right ct__law_source_right : Value}
    {f_law : Addr}
    {od_law an_law : Option Addr}
    {sl_law : Array (Option Value)}
    {oc_law kV_law dc_law pm_law cd_law ct_law : Value}
    (z_isinstance : PySem.W.nsIn K mainGlobals "isinstance" = some none)
    (z_int : PySem.W.nsIn K mainGlobals "int" = some none)
    (z_bool : PySem.W.nsIn K mainGlobals "bool" = some none)
    (z_list : PySem.W.nsIn K mainGlobals "list" = some none)
    (z_tuple : PySem.W.nsIn K mainGlobals "tuple" = some none)
    (z_len : PySem.W.nsIn K mainGlobals "len" = some none)
    (z_all : PySem.W.nsIn K mainGlobals "all" = some none)
    (z_any : PySem.W.nsIn K mainGlobals "any" = some none)
    (z_sorted : PySem.W.nsIn K mainGlobals "sorted" = some none)
    (z_range : PySem.W.nsIn K mainGlobals "range" = some none)
    (z_max : PySem.W.nsIn K mainGlobals "max" = some none)
    (z_min : PySem.W.nsIn K mainGlobals "min" = some none)
    (g_MOST_NUMBER : PySem.W.nsIn K mainGlobals "MOST_NUMBER" = some (some (.int 10000 u_MOST_NUMBER)))
    (g_MOST_THIRD : PySem.W.nsIn K mainGlobals "MOST_THIRD" = some (some (.int 300 u_MOST_THIRD)))
    (ndp : ([] : List Addr).Nodup)
    (a_is_whole : PySem.W.nsIn K mainGlobals "is_whole" = some (some (.ref f_is_whole)))
    (l_is_whole : K.lookup f_is_whole = some ⟨oc_is_whole, od_is_whole, .func (PySem.W.fnOf "is_whole" "is_whole" (defArgs s_is_whole) (defBody s_is_whole) (defScope s_is_whole) .none kV_is_whole dc_is_whole pm_is_whole an_is_whole cd_is_whole ct_is_whole), sl_is_whole⟩)
    (c_is_whole : PySem.W.codeIn K cd_is_whole "is_whole" = true)
    (k_is_whole : PySem.W.keepIn K (.ref f_is_whole) = true)
    (a_is_number : PySem.W.nsIn K mainGlobals "is_number" = some (some (.ref f_is_number)))
    (l_is_number : K.lookup f_is_number = some ⟨oc_is_number, od_is_number, .func (PySem.W.fnOf "is_number" "is_number" (defArgs s_is_number) (defBody s_is_number) (defScope s_is_number) .none kV_is_number dc_is_number pm_is_number an_is_number cd_is_number ct_is_number), sl_is_number⟩)
    (c_is_number : PySem.W.codeIn K cd_is_number "is_number" = true)
    (k_is_number : PySem.W.keepIn K (.ref f_is_number) = true)
    (a_whole_root : PySem.W.nsIn K mainGlobals "whole_root" = some (some (.ref f_whole_root)))
    (l_whole_root : K.lookup f_whole_root = some ⟨oc_whole_root, od_whole_root, .func (PySem.W.fnOf "whole_root" "whole_root" (defArgs s_whole_root) (defBody s_whole_root) (defScope s_whole_root) .none kV_whole_root dc_whole_root pm_whole_root an_whole_root cd_whole_root ct_whole_root), sl_whole_root⟩)
    (c_whole_root : PySem.W.codeIn K cd_whole_root "whole_root" = true)
    (k_whole_root : PySem.W.keepIn K (.ref f_whole_root) = true)
    (a_pairs_of : PySem.W.nsIn K mainGlobals "pairs_of" = some (some (.ref f_pairs_of)))
    (l_pairs_of : K.lookup f_pairs_of = some ⟨oc_pairs_of, od_pairs_of, .func (PySem.W.fnOf "pairs_of" "pairs_of" (defArgs s_pairs_of) (defBody s_pairs_of) (defScope s_pairs_of) .none kV_pairs_of dc_pairs_of pm_pairs_of an_pairs_of cd_pairs_of ct_pairs_of), sl_pairs_of⟩)
    (c_pairs_of : PySem.W.codeIn K cd_pairs_of "pairs_of" = true)
    (k_pairs_of : PySem.W.keepIn K (.ref f_pairs_of) = true)
    (a_walks : PySem.W.nsIn K mainGlobals "walks" = some (some (.ref f_walks)))
    (l_walks : K.lookup f_walks = some ⟨oc_walks, od_walks, .func (PySem.W.fnOf "walks" "walks" (defArgs s_walks) (defBody s_walks) (defScope s_walks) .none kV_walks dc_walks pm_walks an_walks cd_walks ct_walks), sl_walks⟩)
    (c_walks : PySem.W.codeIn K cd_walks "walks" = true)
    (k_walks : PySem.W.keepIn K (.ref f_walks) = true)
    (a_source : PySem.W.nsIn K mainGlobals "source" = some (some (.ref f_source)))
    (l_source : K.lookup f_source = some ⟨oc_source, od_source, .func (PySem.W.fnOf "source" "source" (defArgs s_source) (defBody s_source) (defScope s_source) .none kV_source dc_source pm_source an_source cd_source ct_source), sl_source⟩)
    (c_source : PySem.W.codeIn K cd_source "source" = true)
    (k_source : PySem.W.keepIn K (.ref f_source) = true)
    (a_is_walk : PySem.W.nsIn K mainGlobals "is_walk" = some (some (.ref f_is_walk)))
    (l_is_walk : K.lookup f_is_walk = some ⟨oc_is_walk, od_is_walk, .func (PySem.W.fnOf "is_walk" "is_walk" (defArgs s_is_walk) (defBody s_is_walk) (defScope s_is_walk) .none kV_is_walk dc_is_walk pm_is_walk an_is_walk cd_is_walk ct_is_walk), sl_is_walk⟩)
    (c_is_walk : PySem.W.codeIn K cd_is_walk "is_walk" = true)
    (k_is_walk : PySem.W.keepIn K (.ref f_is_walk) = true)
    (a_common_divisor : PySem.W.nsIn K mainGlobals "common_divisor" = some (some (.ref f_common_divisor)))
    (l_common_divisor : K.lookup f_common_divisor = some ⟨oc_common_divisor, od_common_divisor, .func (PySem.W.fnOf "common_divisor" "common_divisor" (defArgs s_common_divisor) (defBody s_common_divisor) (defScope s_common_divisor) .none kV_common_divisor dc_common_divisor pm_common_divisor an_common_divisor cd_common_divisor ct_common_divisor), sl_common_divisor⟩)
    (c_common_divisor : PySem.W.codeIn K cd_common_divisor "common_divisor" = true)
    (k_common_divisor : PySem.W.keepIn K (.ref f_common_divisor) = true)
    (a__law_cell_at : PySem.W.nsIn K mainGlobals "_law_cell_at" = some (some (.ref f__law_cell_at)))
    (l__law_cell_at : K.lookup f__law_cell_at = some ⟨oc__law_cell_at, od__law_cell_at, .func (PySem.W.fnOf "_law_cell_at" "_law_cell_at" (defArgs s__law_cell_at) (defBody s__law_cell_at) (defScope s__law_cell_at) .none kV__law_cell_at dc__law_cell_at pm__law_cell_at an__law_cell_at cd__law_cell_at ct__law_cell_at), sl__law_cell_at⟩)
    (c__law_cell_at : PySem.W.codeIn K cd__law_cell_at "_law_cell_at" = true)
    (k__law_cell_at : PySem.W.keepIn K (.ref f__law_cell_at) = true)
    (a__law_draw : PySem.W.nsIn K mainGlobals "_law_draw" = some (some (.ref f__law_draw)))
    (l__law_draw : K.lookup f__law_draw = some ⟨oc__law_draw, od__law_draw, .func (PySem.W.fnOf "_law_draw" "_law_draw" (defArgs s__law_draw) (defBody s__law_draw) (defScope s__law_draw) .none kV__law_draw dc__law_draw pm__law_draw an__law_draw cd__law_draw ct__law_draw), sl__law_draw⟩)
    (c__law_draw : PySem.W.codeIn K cd__law_draw "_law_draw" = true)
    (k__law_draw : PySem.W.keepIn K (.ref f__law_draw) = true)
    (a__law_common : PySem.W.nsIn K mainGlobals "_law_common" = some (some (.ref f__law_common)))
    (l__law_common : K.lookup f__law_common = some ⟨oc__law_common, od__law_common, .func (PySem.W.fnOf "_law_common" "_law_common" (defArgs s__law_common) (defBody s__law_common) (defScope s__law_common) .none kV__law_common dc__law_common pm__law_common an__law_common cd__law_common ct__law_common), sl__law_common⟩)
    (c__law_common : PySem.W.codeIn K cd__law_common "_law_common" = true)
    (k__law_common : PySem.W.keepIn K (.ref f__law_common) = true)
    (a__law_tried : PySem.W.nsIn K mainGlobals "_law_tried" = some (some (.ref f__law_tried)))
    (l__law_tried : K.lookup f__law_tried = some ⟨oc__law_tried, od__law_tried, .func (PySem.W.fnOf "_law_tried" "_law_tried" (defArgs s__law_tried) (defBody s__law_tried) (defScope s__law_tried) .none kV__law_tried dc__law_tried pm__law_tried an__law_tried cd__law_tried ct__law_tried), sl__law_tried⟩)
    (c__law_tried : PySem.W.codeIn K cd__law_tried "_law_tried" = true)
    (k__law_tried : PySem.W.keepIn K (.ref f__law_tried) = true)
    (a__law_made : PySem.W.nsIn K mainGlobals "_law_made" = some (some (.ref f__law_made)))
    (l__law_made : K.lookup f__law_made = some ⟨oc__law_made, od__law_made, .func (PySem.W.fnOf "_law_made" "_law_made" (defArgs s__law_made) (defBody s__law_made) (defScope s__law_made) .none kV__law_made dc__law_made pm__law_made an__law_made cd__law_made ct__law_made), sl__law_made⟩)
    (c__law_made : PySem.W.codeIn K cd__law_made "_law_made" = true)
    (k__law_made : PySem.W.keepIn K (.ref f__law_made) = true)
    (a__law_sources : PySem.W.nsIn K mainGlobals "_law_sources" = some (some (.ref f__law_sources)))
    (l__law_sources : K.lookup f__law_sources = some ⟨oc__law_sources, od__law_sources, .func (PySem.W.fnOf "_law_sources" "_law_sources" (defArgs s__law_sources) (defBody s__law_sources) (defScope s__law_sources) .none kV__law_sources dc__law_sources pm__law_sources an__law_sources cd__law_sources ct__law_sources), sl__law_sources⟩)
    (c__law_sources : PySem.W.codeIn K cd__law_sources "_law_sources" = true)
    (k__law_sources : PySem.W.keepIn K (.ref f__law_sources) = true)
    (a__law_source_right : PySem.W.nsIn K mainGlobals "_law_source_right" = some (some (.ref f__law_source_right)))
    (l__law_source_right : K.lookup f__law_source_right = some ⟨oc__law_source_right, od__law_source_right, .func (PySem.W.fnOf "_law_source_right" "_law_source_right" (defArgs s__law_source_right) (defBody s__law_source_right) (defScope s__law_source_right) .none kV__law_source_right dc__law_source_right pm__law_source_right an__law_source_right cd__law_source_right ct__law_source_right), sl__law_source_right⟩)
    (c__law_source_right : PySem.W.codeIn K cd__law_source_right "_law_source_right" = true)
    (k__law_source_right : PySem.W.keepIn K (.ref f__law_source_right) = true)
    (a_law : PySem.W.nsIn K mainGlobals "law" = some (some (.ref f_law)))
    (l_law : K.lookup f_law = some ⟨oc_law, od_law, .func (PySem.W.fnOf "law" "law" (defArgs s_law) (defBody s_law) (defScope s_law) .none kV_law dc_law pm_law an_law cd_law ct_law), sl_law⟩)
    (c_law : PySem.W.codeIn K cd_law "law" = true)
    (k_law : PySem.W.keepIn K (.ref f_law) = true) :
    ∃ t, Txt K mg t :=
  ⟨⟨⟩, {
    z_isinstance := PySem.W.mg_none_of X G z_isinstance,
    z_int := PySem.W.mg_none_of X G z_int,
    z_bool := PySem.W.mg_none_of X G z_bool,
    z_list := PySem.W.mg_none_of X G z_list,
    z_tuple := PySem.W.mg_none_of X G z_tuple,
    z_len := PySem.W.mg_none_of X G z_len,
    z_all := PySem.W.mg_none_of X G z_all,
    z_any := PySem.W.mg_none_of X G z_any,
    z_sorted := PySem.W.mg_none_of X G z_sorted,
    z_range := PySem.W.mg_none_of X G z_range,
    z_max := PySem.W.mg_none_of X G z_max,
    z_min := PySem.W.mg_none_of X G z_min,
    g_MOST_NUMBER := ⟨_, PySem.W.mg_of X G g_MOST_NUMBER⟩,
    g_MOST_THIRD := ⟨_, PySem.W.mg_of X G g_MOST_THIRD⟩,
    nodup := ndp,
    h_is_whole := ⟨_, _, fun_mk l_is_whole c_is_whole k_is_whole, (fun_mk l_is_whole c_is_whole k_is_whole).binds (ps := ["value"]) fun _ _ _ _ _ _ us hl => match us, hl with | [_], _ => rfl, PySem.W.mg_of X G a_is_whole⟩,
    h_is_number := ⟨_, _, fun_mk l_is_number c_is_number k_is_number, (fun_mk l_is_number c_is_number k_is_number).binds (ps := ["value"]) fun _ _ _ _ _ _ us hl => match us, hl with | [_], _ => rfl, PySem.W.mg_of X G a_is_number⟩,
    h_whole_root := ⟨_, _, fun_mk l_whole_root c_whole_root k_whole_root, (fun_mk l_whole_root c_whole_root k_whole_root).binds (ps := ["number"]) fun _ _ _ _ _ _ us hl => match us, hl with | [_], _ => rfl, PySem.W.mg_of X G a_whole_root⟩,
    h_pairs_of := ⟨_, _, fun_mk l_pairs_of c_pairs_of k_pairs_of, (fun_mk l_pairs_of c_pairs_of k_pairs_of).binds (ps := ["number"]) fun _ _ _ _ _ _ us hl => match us, hl with | [_], _ => rfl, PySem.W.mg_of X G a_pairs_of⟩,
    h_walks := ⟨_, _, fun_mk l_walks c_walks k_walks, (fun_mk l_walks c_walks k_walks).binds (ps := ["most"]) fun _ _ _ _ _ _ us hl => match us, hl with | [_], _ => rfl, PySem.W.mg_of X G a_walks⟩,
    h_source := ⟨_, _, fun_mk l_source c_source k_source, (fun_mk l_source c_source k_source).binds (ps := ["walk"]) fun _ _ _ _ _ _ us hl => match us, hl with | [_], _ => rfl, PySem.W.mg_of X G a_source⟩,
    h_is_walk := ⟨_, _, fun_mk l_is_walk c_is_walk k_is_walk, (fun_mk l_is_walk c_is_walk k_is_walk).binds (ps := ["value"]) fun _ _ _ _ _ _ us hl => match us, hl with | [_], _ => rfl, PySem.W.mg_of X G a_is_walk⟩,
    h_common_divisor := ⟨_, _, fun_mk l_common_divisor c_common_divisor k_common_divisor, (fun_mk l_common_divisor c_common_divisor k_common_divisor).binds (ps := ["one", "other"]) fun _ _ _ _ _ _ us hl => match us, hl with | [_, _], _ => rfl, PySem.W.mg_of X G a_common_divisor⟩,
    h__law_cell_at := ⟨_, _, fun_mk l__law_cell_at c__law_cell_at k__law_cell_at, (fun_mk l__law_cell_at c__law_cell_at k__law_cell_at).binds (ps := ["_law_script", "_law_k"]) fun _ _ _ _ _ _ us hl => match us, hl with | [_, _], _ => rfl, PySem.W.mg_of X G a__law_cell_at⟩,
    h__law_draw := ⟨_, _, fun_mk l__law_draw c__law_draw k__law_draw, (fun_mk l__law_draw c__law_draw k__law_draw).binds (ps := ["_law_cell", "_law_k", "_law_many"]) fun _ _ _ _ _ _ us hl => match us, hl with | [_, _, _], _ => rfl, PySem.W.mg_of X G a__law_draw⟩,
    h__law_common := ⟨_, _, fun_mk l__law_common c__law_common k__law_common, (fun_mk l__law_common c__law_common k__law_common).binds (ps := ["_law_one", "_law_other"]) fun _ _ _ _ _ _ us hl => match us, hl with | [_, _], _ => rfl, PySem.W.mg_of X G a__law_common⟩,
    h__law_tried := ⟨_, _, fun_mk l__law_tried c__law_tried k__law_tried, (fun_mk l__law_tried c__law_tried k__law_tried).binds (ps := ["_law_most"]) fun _ _ _ _ _ _ us hl => match us, hl with | [_], _ => rfl, PySem.W.mg_of X G a__law_tried⟩,
    h__law_made := ⟨_, _, fun_mk l__law_made c__law_made k__law_made, (fun_mk l__law_made c__law_made k__law_made).binds (ps := ["_law_m", "_law_n", "_law_k"]) fun _ _ _ _ _ _ us hl => match us, hl with | [_, _, _], _ => rfl, PySem.W.mg_of X G a__law_made⟩,
    h__law_sources := ⟨_, _, fun_mk l__law_sources c__law_sources k__law_sources, (fun_mk l__law_sources c__law_sources k__law_sources).binds (ps := ["_law_most"]) fun _ _ _ _ _ _ us hl => match us, hl with | [_], _ => rfl, PySem.W.mg_of X G a__law_sources⟩,
    h__law_source_right := ⟨_, _, fun_mk l__law_source_right c__law_source_right k__law_source_right, (fun_mk l__law_source_right c__law_source_right k__law_source_right).binds (ps := ["_law_walk", "_law_found"]) fun _ _ _ _ _ _ us hl => match us, hl with | [_, _], _ => rfl, PySem.W.mg_of X G a__law_source_right⟩,
    h_law := ⟨_, _, fun_mk l_law c_law k_law, (fun_mk l_law c_law k_law).binds (ps := ["_law_script"]) fun _ _ _ _ _ _ us hl => match us, hl with | [_], _ => rfl, PySem.W.mg_of X G a_law⟩ }⟩

local macro_rules | `(tactic| walk_at "rd") => `(tactic| simp only [L2.start, List.map_cons, List.map_nil, List.length_cons, List.length_nil, List.replicate, List.cons_append, List.nil_append, List.append_nil, Nat.sub_self, Nat.reduceAdd, Nat.reduceSub,
  tSeq, tRet, tRetN, tNext, tIfS, tDrop, tAsg, tPar, gName, gNil, gCons, gTup, tVar, tC, tOp, tUn, rI, rI0, rU, rEq, rNe, scal_ii, scal_ss, scal_bb, tTest, tB, tAnd, tOr, tNot, tAndV, tOrV, tNotV, tIf, tCB, tCons, tNil, tCall, tChain, tChain3, tLst, tTup, tDGet, tDGet2, tDIn, sDPut, tDNewK, okC, clsV, cxOf_K,
  List.getElem?_cons_zero, List.getElem?_cons_succ, Option.some.injEq, exists_eq_left', exists_eq_left, exists_eq_right, exists_and_left, and_assoc, V.int.injEq, V.bl.injEq, V.ref.injEq, V.str.injEq, List.cons.injEq, and_true, true_and, List.set_cons_zero, List.set_cons_succ,
  if_true, if_false, ↓reduceIte, Bool.false_eq_true, Bool.true_eq_false, Bool.not_true, Bool.not_false, Bool.not_eq_true', decide_eq_true_eq, decide_eq_false_iff_not])
local macro_rules | `(tactic| walk_at "rs") => `(tactic| simp only [L2.start, List.map_cons, List.map_nil, List.length_cons, List.length_nil, List.replicate, List.cons_append, List.nil_append, List.append_nil, Nat.sub_self, Nat.reduceAdd, Nat.reduceSub, cxOf_K])
def okI (v : Int) : Bool := decide (0 ≤ v) && decide (v ≤ 10000)
theorem okI_iff {v : Int} : okI v = true ↔ 0 ≤ v ∧ v ≤ 10000 := by
  unfold okI
  rw [Bool.and_eq_true, decide_eq_true_iff, decide_eq_true_iff]
/-! promises: whole numbers handed in -/
def spWhole : Sp := fun vs H Q _ => ∃ v : Int, vs = [.int v] ∧ Q (.bl true) H
def spNumber : Sp := fun vs H Q _ => ∃ v : Int, vs = [.int v] ∧ Q (.bl (okI v)) H
section
variable {P : Program} {w : World} {K : PySem.W.Frag} {mg : Str → Option Value} {base : Heap} {t : Adr}
theorem ok_is_whole (T : Txt K mg t) : Known P w K mg base 1 "is_whole" ["value"] spWhole := by
  have S : FnScope ["value"] ["value"] (defScope s_is_whole) := ⟨rfl, rfl, rfl, by decide +kernel, rfl, by decide +kernel, by decide +kernel⟩
  refine Known.of T.h_is_whole S (fun vs H Q E h => ?_) (fun f cdv A outer s H vs Q E hr h => ?_)
  · obtain ⟨v, rfl, _⟩ := h
    rfl
  obtain ⟨v, rfl, q⟩ := h
  refine ⟨_, (pss_one (ps_ret (pe_and (pe_callB call_isinst rfl T.z_isinstance bt_isinstance (pa_cons (pv 0) (pa_cons (pe_ty rfl T.z_int bt_int) pa_nil))) (pe_one (pe_not (pe_callB call_isinst rfl T.z_isinstance bt_isinstance (pa_cons (pv 0) (pa_cons (pe_ty rfl T.z_bool bt_bool) pa_nil)))))))), ?_⟩
  walk_at "rd"
  exact ⟨true, inst_ii _ _ _, iteT ⟨false, inst_ib _ _ _, q⟩⟩
theorem ok_is_number (T : Txt K mg t) (K_is_whole : Known P w K mg base 1 "is_whole" ["value"] spWhole) : Known P w K mg base 2 "is_number" ["value"] spNumber := by
  have S : FnScope ["value"] ["value"] (defScope s_is_number) := ⟨rfl, rfl, rfl, by decide +kernel, rfl, by decide +kernel, by decide +kernel⟩
  refine Known.of T.h_is_number S (fun vs H Q E h => ?_) (fun f cdv A outer s H vs Q E hr h => ?_)
  · obtain ⟨v, rfl, _⟩ := h
    rfl
  obtain ⟨v, rfl, q⟩ := h
  refine ⟨_, (pss_one (ps_ret (pe_and (pe_fn K_is_whole hr rfl (pa_cons (pv 0) pa_nil)) (pe_one (pe_chain op_le op_le pe_int (pv 0) (pe_globI rfl T.g_MOST_NUMBER)))))), ?_⟩
  walk_at "rd"
  simp only [spWhole]
  walk_at "rd"
  unfold okI at q
  split
  · rename_i h0
    rw [decide_eq_true h0, Bool.true_and] at q
    exact q
  · rename_i h0
    rw [decide_eq_false h0, Bool.false_and] at q
    exact q
end
end Sq

namespace Sq
open PySem L2
local macro_rules | `(tactic| walk_at "rd") => `(tactic| simp only [L2.start, List.map_cons, List.map_nil, List.length_cons, List.length_nil, List.replicate, List.cons_append, List.nil_append, List.append_nil, Nat.sub_self, Nat.reduceAdd, Nat.reduceSub,
  tSeq, tRet, tRetN, tNext, tIfS, tDrop, tAsg, tPar, gName, gNil, gCons, gTup, tVar, tC, tOp, tUn, rI, rI0, rU, rEq, rNe, scal_ii, scal_ss, scal_bb, tTest, tB, tAnd, tOr, tNot, tAndV, tOrV, tNotV, tIf, tCB, tCons, tNil, tCall, tChain, tChain3, tLst, tTup, tDGet, tDGet2, tDIn, sDPut, tDNewK, okC, clsV, cxOf_K,
  List.getElem?_cons_zero, List.getElem?_cons_succ, Option.some.injEq, exists_eq_left', exists_eq_left, exists_eq_right, exists_and_left, and_assoc, V.int.injEq, V.bl.injEq, V.ref.injEq, V.str.injEq, List.cons.injEq, and_true, true_and, List.set_cons_zero, List.set_cons_succ,
  if_true, if_false, ↓reduceIte, Bool.false_eq_true, Bool.true_eq_false, Bool.not_true, Bool.not_false, Bool.not_eq_true', decide_eq_true_eq, decide_eq_false_iff_not])
local macro_rules | `(tactic| walk_at "rs") => `(tactic| simp only [L2.start, List.map_cons, List.map_nil, List.length_cons, List.length_nil, List.replicate, List.cons_append, List.nil_append, List.append_nil, Nat.sub_self, Nat.reduceAdd, Nat.reduceSub, cxOf_K])

section
variable {P : Program} {w : World} {K : PySem.W.Frag} {mg : Str → Option Value} {base : Heap} {t : Adr}
end
end Sq

namespace Sq
open PySem L2
local macro_rules | `(tactic| walk_at "rd") => `(tactic| simp only [L2.start, List.map_cons, List.map_nil, List.length_cons, List.length_nil, List.replicate, List.cons_append, List.nil_append, List.append_nil, Nat.sub_self, Nat.reduceAdd, Nat.reduceSub,
  tSeq, tRet, tRetN, tNext, tIfS, tDrop, tAsg, tPar, gName, gNil, gCons, gTup, tVar, tC, tOp, tUn, rI, rI0, rU, rEq, rNe, scal_ii, scal_ss, scal_bb, tTest, tB, tAnd, tOr, tNot, tAndV, tOrV, tNotV, tIf, tCB, tCons, tNil, tCall, tChain, tChain3, tLst, tTup, tDGet, tDGet2, tDIn, sDPut, tDNewK, okC, clsV, cxOf_K,
  List.getElem?_cons_zero, List.getElem?_cons_succ, Option.some.injEq, exists_eq_left', exists_eq_left, exists_eq_right, exists_and_left, and_assoc, V.int.injEq, V.bl.injEq, V.ref.injEq, V.str.injEq, List.cons.injEq, and_true, true_and, List.set_cons_zero, List.set_cons_succ,
  if_true, if_false, ↓reduceIte, Bool.false_eq_true, Bool.true_eq_false, Bool.not_true, Bool.not_false, Bool.not_eq_true', decide_eq_true_eq, decide_eq_false_iff_not])
local macro_rules | `(tactic| walk_at "rs") => `(tactic| simp only [L2.start, List.map_cons, List.map_nil, List.length_cons, List.length_nil, List.replicate, List.cons_append, List.nil_append, List.append_nil, Nat.sub_self, Nat.reduceAdd, Nat.reduceSub, cxOf_K])

section
variable {P : Program} {w : World} {K : PySem.W.Frag} {mg : Str → Option Value} {base : Heap} {t : Adr}
end
end Sq

namespace Sq
open PySem L2
local macro_rules | `(tactic| walk_at "rd") => `(tactic| simp only [L2.start, List.map_cons, List.map_nil, List.length_cons, List.length_nil, List.replicate, List.cons_append, List.nil_append, List.append_nil, Nat.sub_self, Nat.reduceAdd, Nat.reduceSub,
  tSeq, tRet, tRetN, tNext, tIfS, tDrop, tAsg, tPar, gName, gNil, gCons, gTup, tVar, tC, tOp, tUn, rI, rI0, rU, rEq, rNe, scal_ii, scal_ss, scal_bb, tTest, tB, tAnd, tOr, tNot, tAndV, tOrV, tNotV, tIf, tCB, tCons, tNil, tCall, tChain, tChain3, tLst, tTup, tDGet, tDGet2, tDIn, sDPut, tDNewK, okC, clsV, cxOf_K,
  List.getElem?_cons_zero, List.getElem?_cons_succ, Option.some.injEq, exists_eq_left', exists_eq_left, exists_eq_right, exists_and_left, and_assoc, V.int.injEq, V.bl.injEq, V.ref.injEq, V.str.injEq, List.cons.injEq, and_true, true_and, List.set_cons_zero, List.set_cons_succ,
  if_true, if_false, ↓reduceIte, Bool.false_eq_true, Bool.true_eq_false, Bool.not_true, Bool.not_false, Bool.not_eq_true', decide_eq_true_eq, decide_eq_false_iff_not])
local macro_rules | `(tactic| walk_at "rs") => `(tactic| simp only [L2.start, List.map_cons, List.map_nil, List.length_cons, List.length_nil, List.replicate, List.cons_append, List.nil_append, List.append_nil, Nat.sub_self, Nat.reduceAdd, Nat.reduceSub, cxOf_K])

def flip (c : Bool) (d : Bool) : Bool := !decide (c = d)
set_option maxHeartbeats 4000000
section
variable {P : Program} {w : World} {K : PySem.W.Frag} {mg : Str → Option Value} {base : Heap} {t : Adr}
end
end Sq

namespace L2
open PySem PySem.Spec PyProof.Rows
/-- whole numbers written out -/
def intsOf : List Expr → Option (List Int)
  | [] => some []
  | .Constant (.int i) _ _ :: r => (intsOf r).map (i :: ·)
  | _ :: _ => none
theorem pa_ints {X : Cx} : ∀ {es : List Expr} {ns : List Int}, intsOf es = some ns → PA X es (fun _ H Q => Q (ns.map V.int) H)
  | [], ns, h => by
    have e : [] = ns := Option.some.inj h
    subst e
    exact pa_nil
  | e :: r, ns, h => by
    unfold intsOf at h
    split at h
    · rename_i h0
      cases h0
    · rename_i i j pos r' h0
      cases h0
      cases hr : intsOf r with
      | none => rw [hr] at h; cases h
      | some ms =>
        rw [hr] at h
        have e : i :: ms = ns := Option.some.inj h
        subst e
        exact pa_cons pe_int (pa_ints hr)
    · cases h
end L2
namespace L2
open PySem PySem.Spec PyProof.Rows
end L2
namespace Sq
open PySem L2
local macro_rules | `(tactic| walk_at "rd") => `(tactic| simp only [L2.start, List.map_cons, List.map_nil, List.length_cons, List.length_nil, List.replicate, List.cons_append, List.nil_append, List.append_nil, Nat.sub_self, Nat.reduceAdd, Nat.reduceSub,
  tSeq, tRet, tRetN, tNext, tIfS, tDrop, tAsg, tPar, gName, gNil, gCons, gTup, tVar, tC, tOp, tUn, rI, rI0, rU, rEq, rNe, scal_ii, scal_ss, scal_bb, tTest, tB, tAnd, tOr, tNot, tAndV, tOrV, tNotV, tIf, tCB, tCons, tNil, tCall, tChain, tChain3, tLst, tTup, tDGet, tDGet2, tDIn, sDPut, tDNewK, okC, clsV, cxOf_K,
  List.getElem?_cons_zero, List.getElem?_cons_succ, Option.some.injEq, exists_eq_left', exists_eq_left, exists_eq_right, exists_and_left, and_assoc, V.int.injEq, V.bl.injEq, V.ref.injEq, V.str.injEq, List.cons.injEq, and_true, true_and, List.set_cons_zero, List.set_cons_succ,
  if_true, if_false, ↓reduceIte, Bool.false_eq_true, Bool.true_eq_false, Bool.not_true, Bool.not_false, Bool.not_eq_true', decide_eq_true_eq, decide_eq_false_iff_not])
local macro_rules | `(tactic| walk_at "rs") => `(tactic| simp only [L2.start, List.map_cons, List.map_nil, List.length_cons, List.length_nil, List.replicate, List.cons_append, List.nil_append, List.append_nil, Nat.sub_self, Nat.reduceAdd, Nat.reduceSub, cxOf_K])

set_option maxHeartbeats 1000000
/-- texts of plain signs -/
def SO (ss : List Str) : Prop := ∀ x ∈ ss, PyData.strOk x = true
theorem SO.nil : SO [] := fun x hx => by simp at hx
theorem SO.app {a b : List Str} (h : SO a) (g : SO b) : SO (a ++ b) := fun x hx => by
  rcases List.mem_append.mp hx with z | z
  · exact h x z
  · exact g x z
theorem SO.one {x : Str} (h : PyData.strOk x = true) : SO [x] := fun y hy => by
  rw [List.mem_singleton.mp hy]
  exact h
/-! what the laws draw -/
def cellAt (ns : List Int) (k : Nat) : Int := ns.getD k 0
def spCell (K : PySem.W.Frag) : Sp := fun vs H Q _ => ∃ (p : Addr) (ns : List Int) (k : Nat), vs = [.ref p, .int k] ∧ SqL K H p (ns.map V.int) ∧ ns.length ≤ 63 ∧ Q (.int (cellAt ns k)) H
def drawPs : List Int := [1000003, 1000033, 1000037, 1000039, 1000081, 1000099, 1000117, 1000121, 1000133, 1000151, 1000159, 1000171, 1000183, 1000187, 1000193, 1000199]
def draw (cell : Int) (k : Nat) (many : Int) : Int := (cell * 48271 + k * 69621) % (drawPs.getD (k % 16) 1) % many
theorem draw_lt {c : Int} {k : Nat} {m : Int} (h : 0 < m) : 0 ≤ draw c k m ∧ draw c k m < m := ⟨Int.emod_nonneg _ (by omega), Int.emod_lt_of_pos _ h⟩
def spDraw : Sp := fun vs H Q _ => ∃ (c : Int) (k : Nat) (m : Int), vs = [.int c, .int k, .int m] ∧ k < 100 ∧ 0 < m ∧ ∀ H', Same H H' → Q (.int (draw c k m)) H'
section
variable {P : Program} {w : World} {K : PySem.W.Frag} {mg : Str → Option Value} {base : Heap} {t : Adr}
theorem ok_law_cell_at (T : Txt K mg t) : Known P w K mg base 1 "_law_cell_at" ["_law_script", "_law_k"] (spCell K) := by
  have S : FnScope ["_law_script", "_law_k"] ["_law_script", "_law_k"] (defScope s__law_cell_at) := ⟨rfl, rfl, rfl, by decide +kernel, rfl, by decide +kernel, by decide +kernel⟩
  refine Known.of T.h__law_cell_at S (fun vs H Q E h => ?_) (fun f cdv A outer s H vs Q E hr h => ?_)
  · obtain ⟨p, ns, k, rfl, _⟩ := h
    rfl
  obtain ⟨p, ns, k, rfl, hp, hz, q⟩ := h
  refine ⟨_, (pss_cons (ps_if (pt_cmpR op_lt (pv 1) (pe_callB call_len_seq rfl T.z_len bt_len (pa_cons (pv 0) pa_nil)) (nomark _)) (pss_one (ps_ret (pe_ix ix_list (pv 0) (pv 1) (fun _ _ => rfl))))
      pss_nil)
      (pss_one (ps_ret pe_int))), ?_⟩
  walk_at "rd"
  refine ⟨ns.map V.int, .inl hp, ?_⟩
  rw [List.length_map]
  unfold cellAt at q
  split
  · rename_i h0
    have h0' : k < ns.length := by exact_mod_cast h0
    refine ⟨p, _, _, .int (ns.getD k 0), rfl, rfl, hp, atI_nat ?_, q⟩
    rw [List.getElem?_map, List.getD_eq_getElem?_getD, List.getElem?_eq_getElem h0']
    rfl
  · rename_i h0
    have h0' : ns.length ≤ k := by
      rcases Nat.lt_or_ge k ns.length with z | z
      · exact absurd (by exact_mod_cast z) h0
      · exact z
    rw [List.getD_eq_getElem?_getD, List.getElem?_eq_none_iff.mpr h0'] at q
    exact q
end
end Sq

namespace Sq
open PySem L2
local macro_rules | `(tactic| walk_at "rd") => `(tactic| simp only [L2.start, List.map_cons, List.map_nil, List.length_cons, List.length_nil, List.replicate, List.cons_append, List.nil_append, List.append_nil, Nat.sub_self, Nat.reduceAdd, Nat.reduceSub,
  tSeq, tRet, tRetN, tNext, tIfS, tDrop, tAsg, tPar, gName, gNil, gCons, gTup, tVar, tC, tOp, tUn, rI, rI0, rU, rEq, rNe, scal_ii, scal_ss, scal_bb, tTest, tB, tAnd, tOr, tNot, tAndV, tOrV, tNotV, tIf, tCB, tCons, tNil, tCall, tChain, tChain3, tLst, tTup, tDGet, tDGet2, tDIn, sDPut, tDNewK, okC, clsV, cxOf_K,
  List.getElem?_cons_zero, List.getElem?_cons_succ, Option.some.injEq, exists_eq_left', exists_eq_left, exists_eq_right, exists_and_left, and_assoc, V.int.injEq, V.bl.injEq, V.ref.injEq, V.str.injEq, List.cons.injEq, and_true, true_and, List.set_cons_zero, List.set_cons_succ,
  if_true, if_false, ↓reduceIte, Bool.false_eq_true, Bool.true_eq_false, Bool.not_true, Bool.not_false, Bool.not_eq_true', decide_eq_true_eq, decide_eq_false_iff_not])
local macro_rules | `(tactic| walk_at "rs") => `(tactic| simp only [L2.start, List.map_cons, List.map_nil, List.length_cons, List.length_nil, List.replicate, List.cons_append, List.nil_append, List.append_nil, Nat.sub_self, Nat.reduceAdd, Nat.reduceSub, cxOf_K])

set_option maxHeartbeats 1000000
theorem draw_pos : ∀ j : Nat, j < 16 → 0 < drawPs.getD j 1 := by decide
section
variable {P : Program} {w : World} {K : PySem.W.Frag} {mg : Str → Option Value} {base : Heap} {t : Adr}
theorem ok_law_draw (T : Txt K mg t) : Known P w K mg base 1 "_law_draw" ["_law_cell", "_law_k", "_law_many"] spDraw := by
  have S : FnScope ["_law_cell", "_law_k", "_law_many", "_law_primes"] ["_law_cell", "_law_k", "_law_many"] (defScope s__law_draw) := ⟨rfl, rfl, rfl, by decide +kernel, rfl, by decide +kernel, by decide +kernel⟩
  refine Known.of T.h__law_draw S (fun vs H Q E h => ?_) (fun f cdv A outer s H vs Q E hr h => ?_)
  · obtain ⟨c, k, m, rfl, _⟩ := h
    rfl
  obtain ⟨c, k, m, rfl, hk, hm, q⟩ := h
  have hb : ∃ p1 p2 p3 k' es r, defBody s__law_draw = .Assign [.Name "_law_primes" p1] (.Tuple es k' p2) p3 :: r ∧ intsOf es = some drawPs ∧ r = (defBody s__law_draw).drop 1 := ⟨_, _, _, _, _, _, rfl, rfl, rfl⟩
  obtain ⟨p1, p2, p3, k', es, r, hb, he, hr'⟩ := hb
  rw [hb]
  have hz : ∃ tr, PSs (cxOf CX0 P w K mg base ["_law_cell", "_law_k", "_law_many", "_law_primes"] "_law_draw" (defScope s__law_draw) f cdv A outer s H E).nox r tr ∧
      ∀ (D : Ends) (tp : Addr), H tp = none → D.rt (.int (draw c k m)) (upd H tp (.tup (drawPs.map V.int))) → tr D [some (.int c), some (.int k), some (.int m), some (.ref tp)] (upd H tp (.tup (drawPs.map V.int))) := by
    rw [hr']
    refine ⟨_, (pss_one (ps_ret (pe_op op_mod (pe_op op_mod (pe_op op_add (pe_op op_mul (pv 0) pe_int) (pe_op op_mul (pv 1) pe_int)) (pe_ix ix_tup (pv 3) (pe_op op_mod (pv 1) pe_int) (fun _ _ => rfl))) (pv 2)))), fun D tp htp q' => ?_⟩
    walk_at "rd"
    have hj : k % 16 < 16 := Nat.mod_lt _ (by decide)
    have ej : ((k : Int) % 16) = ((k % 16 : Nat) : Int) := by omega
    refine ⟨.inr ⟨by decide, by decide⟩, .inr ⟨by decide, by decide⟩, by decide, ?_⟩
    rw [ej]
    refine ⟨tp, _, _, .int (drawPs.getD (k % 16) 1), rfl, rfl, SqT.of upd_same, atI_nat ?_, _, rfl, draw_pos _ hj, hm, q'⟩
    rw [List.getElem?_map, List.getD_eq_getElem?_getD, List.getElem?_eq_getElem (show k % 16 < drawPs.length from hj)]
    rfl
  obtain ⟨tr, hz1, hz2⟩ := hz
  refine ⟨_, pss_cons (ps_set (i := 3) S.nd rfl (by first | exact Or.inl rfl | exact Or.inr rfl) (pe_tup (pa_ints he))) hz1, ?_⟩
  refine ⟨by show 16 ≤ sizeLine; decide, fun tp htp => ?_⟩
  exact hz2 _ tp htp (q _ (Same.upd htp _))
theorem rd_draw {c m : Int} (k : Nat) {H : Hp} {Q : VK} {E : XK} (hk : k < 100) (hm : 0 < m) (q : ∀ H', Same H H' → Q (.int (draw c k m)) H') : spDraw [.int c, .int (k : Int), .int m] H Q E := ⟨c, k, m, rfl, hk, hm, q⟩
/-- the number that a cell draws -/
def number (c : Int) : Int :=
  if draw c 1 6 = 0 then draw c 2 60
  else if draw c 1 6 = 1 then 1 * 2 ^ (2 * draw c 2 5).toNat * (8 * draw c 3 5 + 7)
  else if draw c 1 6 = 2 then draw c 2 40 * ([3, 7, 9, 49, 4, 25] : List Int).getD (draw c 3 6).toNat 0
  else if draw c 1 6 = 3 then draw c 2 70 ^ 2 + draw c 3 70 ^ 2
  else draw c 2 10001
end
end Sq

namespace Sq
open PySem L2
local macro_rules | `(tactic| walk_at "rd") => `(tactic| simp only [L2.start, List.map_cons, List.map_nil, List.length_cons, List.length_nil, List.replicate, List.cons_append, List.nil_append, List.append_nil, Nat.sub_self, Nat.reduceAdd, Nat.reduceSub,
  tSeq, tRet, tRetN, tNext, tIfS, tDrop, tAsg, tPar, gName, gNil, gCons, gTup, tVar, tC, tOp, tUn, rI, rI0, rU, rEq, rNe, scal_ii, scal_ss, scal_bb, tTest, tB, tAnd, tOr, tNot, tAndV, tOrV, tNotV, tIf, tCB, tCons, tNil, tCall, tChain, tChain3, tLst, tTup, tDGet, tDGet2, tDIn, sDPut, tDNewK, okC, clsV, cxOf_K,
  List.getElem?_cons_zero, List.getElem?_cons_succ, Option.some.injEq, exists_eq_left', exists_eq_left, exists_eq_right, exists_and_left, and_assoc, V.int.injEq, V.bl.injEq, V.ref.injEq, V.str.injEq, List.cons.injEq, and_true, true_and, List.set_cons_zero, List.set_cons_succ,
  if_true, if_false, ↓reduceIte, Bool.false_eq_true, Bool.true_eq_false, Bool.not_true, Bool.not_false, Bool.not_eq_true', decide_eq_true_eq, decide_eq_false_iff_not])
local macro_rules | `(tactic| walk_at "rs") => `(tactic| simp only [L2.start, List.map_cons, List.map_nil, List.length_cons, List.length_nil, List.replicate, List.cons_append, List.nil_append, List.append_nil, Nat.sub_self, Nat.reduceAdd, Nat.reduceSub, cxOf_K])

set_option maxHeartbeats 1000000
/-- a list of pairs, as it lies there -/
def PL (H : Hp) : List V → List (Nat × Nat) → Prop
  | [], [] => True
  | v :: xs, p :: ps => (∃ a, v = .ref a ∧ H a = some (.tup [.int (p.1 : Int), .int (p.2 : Int)])) ∧ PL H xs ps
  | _, _ => False
theorem PL.same {H H' : Hp} (s : Same H H') : ∀ {xs : List V} {ps : List (Nat × Nat)}, PL H xs ps → PL H' xs ps
  | [], [], _ => trivial
  | _ :: _, _ :: _, ⟨⟨a, e, h⟩, r⟩ => ⟨⟨a, e, s _ _ h⟩, PL.same s r⟩
theorem PL.upd {H : Hp} {l : Addr} {ys : List V} {o : HO} (hl : H l = some (.lst ys)) : ∀ {xs : List V} {ps : List (Nat × Nat)}, PL H xs ps → PL (L2.upd H l o) xs ps
  | [], [], _ => trivial
  | _ :: _, _ :: _, ⟨⟨a, e, h⟩, r⟩ => ⟨⟨a, e, by
      have n : a ≠ l := fun z => by rw [z, hl] at h; cases h
      rw [upd_ne n]; exact h⟩, PL.upd hl r⟩
theorem PL.append {H : Hp} {a : Addr} {p : Nat × Nat} (h : H a = some (.tup [.int (p.1 : Int), .int (p.2 : Int)])) : ∀ {xs : List V} {ps : List (Nat × Nat)}, PL H xs ps → PL H (xs ++ [.ref a]) (ps ++ [p])
  | [], [], _ => ⟨⟨a, rfl, h⟩, trivial⟩
  | _ :: _, _ :: _, ⟨g, r⟩ => ⟨g, PL.append h r⟩
theorem PL.length {H : Hp} : ∀ {xs : List V} {ps : List (Nat × Nat)}, PL H xs ps → xs.length = ps.length
  | [], [], _ => rfl
  | _ :: _, _ :: _, ⟨_, r⟩ => congrArg (· + 1) (PL.length r)
theorem PL.get {H : Hp} : ∀ {xs : List V} {ps : List (Nat × Nat)}, PL H xs ps → ∀ {i : Nat} {v : V}, xs[i]? = some v → ∃ p a, ps[i]? = some p ∧ v = .ref a ∧ H a = some (.tup [.int (p.1 : Int), .int (p.2 : Int)])
  | [], [], _, i, v, h => by cases h
  | x :: _, p :: _, ⟨⟨a, e, h⟩, r⟩, 0, v, g => by
    cases g
    exact ⟨p, a, rfl, e, h⟩
  | _ :: _, _ :: _, ⟨_, r⟩, i + 1, v, g => PL.get r g
def spWRoot : Sp := fun vs H Q _ => ∃ n : Nat, vs = [.int n] ∧ n ≤ 100000 ∧ ∀ r : Nat, r * r ≤ n → n < (r + 1) * (r + 1) → Q (.int r) H
/-- all pairs, rising, in a new list -/
def spPairs : Sp := fun vs H Q _ => ∃ n : Nat, vs = [.int n] ∧ n ≤ 100000 ∧ ∀ (ps : List (Nat × Nat)) (l : Addr) (xs : List V) (H' : Hp), IsPairs n ps → Same H H' → H l = none → H' l = some (.lst xs) → PL H' xs ps → ps.length ≤ 1000 → Q (.ref l) H'
theorem root_small {r : Nat} (h : r * r ≤ 100000) : r ≤ 316 := by
  rcases Nat.lt_or_ge 316 r with z | z
  · have := Nat.mul_le_mul z z
    omega
  · exact z
section
variable {P : Program} {w : World} {K : PySem.W.Frag} {mg : Str → Option Value} {base : Heap} {t : Adr}
theorem ok_whole_root (T : Txt K mg t) : Known P w K mg base 1 "whole_root" ["number"] spWRoot := by
  have S : FnScope ["number", "root"] ["number"] (defScope s_whole_root) := ⟨rfl, rfl, rfl, by decide +kernel, rfl, by decide +kernel, by decide +kernel⟩
  refine Known.of T.h_whole_root S (fun vs H Q E h => ?_) (fun f cdv A outer s H vs Q E hr h => ?_)
  · obtain ⟨n, rfl, _⟩ := h
    rfl
  obtain ⟨n, rfl, hn, q⟩ := h
  refine ⟨_, (pss_cons (ps_set (i := 1) S.nd rfl (by first | exact Or.inl rfl | exact Or.inr rfl) pe_int)
      (pss_cons (ps_while PassesOwn.never (pt_cmpR op_le (pe_op op_mul (pe_op op_add (pv 1) pe_int) (pe_op op_add (pv 1) pe_int)) (pv 0) (nomark _)) (pss_one (ps_set (i := 1) S.nd rfl (by first | exact Or.inl rfl | exact Or.inr rfl) (pe_op op_add (pv 1) pe_int))))
      (pss_one (ps_ret (pv 1))))), ?_⟩
  walk_at "rd"
  refine ⟨fun m σ H' => ∃ r : Nat, σ = [some (.int n), some (.int r)] ∧ H' = H ∧ r * r ≤ n ∧ m = 400 - r, ⟨400, 0, rfl, rfl, by omega, rfl⟩, ?_⟩
  rintro m σ H' ⟨r, rfl, rfl, hle, rfl⟩
  have r1 := root_small (Nat.le_trans hle hn)
  walk_at "rd"
  refine ⟨.inl ⟨by omega, by omega⟩, ?_⟩
  split
  · rename_i h1
    have h1' : (r + 1) * (r + 1) ≤ n := by exact_mod_cast h1
    refine ⟨_, fun σ' H'' h => h, 400 - (r + 1), by omega, r + 1, ?_, rfl, h1', rfl⟩
    simp
  · rename_i h1
    have h1' : ¬ (r + 1) * (r + 1) ≤ n := fun z => h1 (by exact_mod_cast z)
    exact q r hle (by omega)
theorem ok_pairs_of (T : Txt K mg t) (K_whole_root : Known P w K mg base 1 "whole_root" ["number"] spWRoot) : Known P w K mg base 2 "pairs_of" ["number"] spPairs := by
  have S : FnScope ["number", "pairs", "one", "other", "together"] ["number"] (defScope s_pairs_of) := ⟨rfl, rfl, rfl, by decide +kernel, rfl, by decide +kernel, by decide +kernel⟩
  refine Known.of T.h_pairs_of S (fun vs H Q E h => ?_) (fun f cdv A outer s H vs Q E hr h => ?_)
  · obtain ⟨n, rfl, _⟩ := h
    rfl
  obtain ⟨n, rfl, hn, q⟩ := h
  refine ⟨_, (pss_cons (ps_set (i := 1) S.nd rfl (by first | exact Or.inl rfl | exact Or.inr rfl) (pe_lst pa_nil))
      (pss_cons (ps_set (i := 2) S.nd rfl (by first | exact Or.inl rfl | exact Or.inr rfl) pe_int)
      (pss_cons (ps_set (i := 3) S.nd rfl (by first | exact Or.inl rfl | exact Or.inr rfl) (pe_fn K_whole_root hr rfl (pa_cons (pv 0) pa_nil)))
      (pss_cons (ps_while PassesOwn.never (pt_cmpR op_le (pv 2) (pv 3) (nomark _)) (pss_cons (ps_set (i := 4) S.nd rfl (by first | exact Or.inl rfl | exact Or.inr rfl) (pe_op op_add (pe_op op_mul (pv 2) (pv 2)) (pe_op op_mul (pv 3) (pv 3))))
      (pss_cons (ps_if (pt_cmpR op_eq (pv 4) (pv 0) (nomark _)) (pss_one (ps_expr (pe_bm PySem.F.plainAttrs_list PySem.F.slot_list_append PySem.F.type_list_append mt_append (pv 1) (pa_cons (pe_tup (pa_cons (pv 2) (pa_cons (pv 3) pa_nil))) pa_nil))))
      pss_nil)
      (pss_one (ps_if (pt_cmpR op_le (pv 4) (pv 0) (nomark _)) (pss_one (ps_set (i := 2) S.nd rfl (by first | exact Or.inl rfl | exact Or.inr rfl) (pe_op op_add (pv 2) pe_int)))
      (pss_one (ps_set (i := 3) S.nd rfl (by first | exact Or.inl rfl | exact Or.inr rfl) (pe_op op_sub (pv 3) pe_int))))))))
      (pss_one (ps_ret (pv 1))))))), ?_⟩
  walk_at "rd"
  refine ⟨by show 0 ≤ sizeLine; decide, fun l hl => ?_⟩
  refine ⟨n, rfl, hn, fun r hr1 hr2 => ?_⟩
  have r1 := root_small (Nat.le_trans hr1 hn)
  refine ⟨fun m σ H' => ∃ (i j : Nat) (ps : List (Nat × Nat)) (xs : List V) (y : Option V), σ = [some (.int n), some (.ref l), some (.int i), some (.int j), y] ∧ Same H H' ∧ H' l = some (.lst xs) ∧ PL H' xs ps ∧ i ≤ j + 1 ∧ j ≤ 316 ∧ ps.length ≤ i ∧
      ps.Pairwise (fun x y => x.1 < y.1) ∧ (∀ x ∈ ps, x.1 < i ∧ x.1 ≤ x.2 ∧ x.1 * x.1 + x.2 * x.2 = n) ∧ (∀ a b, a ≤ b → a * a + b * b = n → (a, b) ∈ ps ∨ (i ≤ a ∧ b ≤ j)) ∧ m = j + 1 - i,
    ⟨r + 1, 0, r, [], [], none, rfl, Same.upd hl _, upd_same, trivial, by omega, r1, by simp, List.Pairwise.nil, fun x hx => by simp at hx, fun a b hab he => .inr ⟨by omega, ?_⟩, by omega⟩, ?_⟩
  · rcases Nat.lt_or_ge r b with z | z
    · have := Nat.mul_le_mul (show r + 1 ≤ b from z) (show r + 1 ≤ b from z)
      omega
    · exact z
  rintro m σ H' ⟨i, j, ps, xs, y, rfl, s1, hL, hP, hij, hj, hlen, hpw, hin, hall, rfl⟩
  have cmI : CMul (i : Int) (i : Int) := .inl ⟨by omega, by omega⟩
  have cmJ : CMul (j : Int) (j : Int) := .inl ⟨by omega, by omega⟩
  walk_at "rd"
  by_cases hle : (i : Int) ≤ (j : Int)
  · rw [if_pos hle]
    have hle' : i ≤ j := by omega
    have pi : ∀ {a : Nat}, i ≤ a → i * i ≤ a * a := fun h => Nat.mul_le_mul h h
    have pj : ∀ {b : Nat}, b ≤ j → b * b ≤ j * j := fun h => Nat.mul_le_mul h h
    refine ⟨_, fun σ' H'' h => h, cmI, cmJ, ?_⟩
    have eI : ((i : Int) * i + (j : Int) * j = (n : Int)) ↔ i * i + j * j = n := by
      rw [← Int.natCast_mul, ← Int.natCast_mul, ← Int.natCast_add]
      exact Int.ofNat_inj
    have leI : ((i : Int) * i + (j : Int) * j ≤ (n : Int)) ↔ i * i + j * j ≤ n := by
      rw [← Int.natCast_mul, ← Int.natCast_mul, ← Int.natCast_add]
      exact Int.ofNat_le
    by_cases c1 : i * i + j * j = n
    · rw [if_pos (eI.mpr c1)]
      simp only [if_pos (leI.mpr (by omega : i * i + j * j ≤ n))]
      refine ⟨_, rfl, .inl ⟨rfl, _, SqL.of hL⟩, ?_⟩
      walk_at "rd"
      refine ⟨by show 2 ≤ sizeLine; decide, fun a ha => ?_⟩
      have hL1 : upd H' a (.tup [V.int (i : Int), V.int (j : Int)]) l = some (.lst xs) := by rw [upd_ne (ne_of_none hL ha)]; exact hL
      have sA : Same H (upd H' a (.tup [V.int (i : Int), V.int (j : Int)])) := s1.trans (Same.upd ha _)
      have hP1 : PL (upd H' a (.tup [V.int (i : Int), V.int (j : Int)])) (xs ++ [.ref a]) (ps ++ [(i, j)]) := PL.append (p := (i, j)) upd_same (hP.same (Same.upd ha _))
      generalize upd H' a (.tup [V.int (i : Int), V.int (j : Int)]) = H2 at hL1 sA hP1
      refine ⟨l, xs, _, rfl, rfl, hL1, by rw [hP.length]; exact small1000 (by omega), j + 1 - (i + 1), by omega, i + 1, by simp, j, rfl, ?_, ps ++ [(i, j)], xs ++ [.ref a], upd_same, hP1.upd hL1, by omega, hj, by rw [List.length_append]; show _ + 1 ≤ _; omega, ?_, ?_, ?_, rfl⟩
      · intro b o e
        rw [upd_ne (ne_of_none e hl)]
        exact sA b o e
      · refine List.pairwise_append.mpr ⟨hpw, List.pairwise_singleton _ _, fun x hx y hy => ?_⟩
        rw [List.mem_singleton.mp hy]
        exact (hin x hx).1
      · intro x hx
        rcases List.mem_append.mp hx with z | z
        · exact ⟨by have := (hin x z).1; omega, (hin x z).2⟩
        · rw [List.mem_singleton.mp z]
          exact ⟨by show i < i + 1; omega, hle', c1⟩
      · intro a' b hab he
        rcases hall a' b hab he with z | ⟨z1, z2⟩
        · exact .inl (List.mem_append_left _ z)
        · rcases Nat.lt_or_ge i a' with y | y
          · exact .inr ⟨y, z2⟩
          · have e : a' = i := by omega
            subst e
            have e2 : b * b = j * j := by omega
            rw [sq_inj e2]
            exact .inl (List.mem_append_right _ (List.mem_singleton.mpr rfl))
    · rw [if_neg (fun z => c1 (eI.mp z))]
      by_cases c2 : i * i + j * j ≤ n
      · rw [if_pos (leI.mpr c2)]
        refine ⟨j + 1 - (i + 1), by omega, i + 1, j, ps, xs, some (.int ((i : Int) * i + (j : Int) * j)), by simp, s1, hL, hP, by omega, hj, by omega, hpw, fun x hx => ⟨by have := (hin x hx).1; omega, (hin x hx).2⟩, fun a b hab he => ?_, rfl⟩
        rcases hall a b hab he with z | ⟨z1, z2⟩
        · exact .inl z
        · refine .inr ⟨?_, z2⟩
          rcases Nat.lt_or_ge i a with y | y
          · exact y
          · have e : a = i := by omega
            subst e
            have := pj z2
            omega
      · rw [if_neg (fun z => c2 (leI.mp z))]
        have j1 : 1 ≤ j := by
          rcases Nat.eq_zero_or_pos j with z | z
          · subst z
            have e : i = 0 := by omega
            subst e
            omega
          · exact z
        refine ⟨(j - 1) + 1 - i, by omega, i, j - 1, ps, xs, some (.int ((i : Int) * i + (j : Int) * j)), by rw [show ((j - 1 : Nat) : Int) = (j : Int) - 1 by omega], s1, hL, hP, by omega, by omega, hlen, hpw, hin, fun a b hab he => ?_, rfl⟩
        rcases hall a b hab he with z | ⟨z1, z2⟩
        · exact .inl z
        · refine .inr ⟨z1, ?_⟩
          rcases Nat.lt_or_ge b j with y | y
          · omega
          · have e : b = j := by omega
            subst e
            have := pi z1
            omega
  · rw [if_neg hle]
    have hge : j < i := by omega
    refine q ps l xs H' ⟨hpw, fun a b => ⟨fun h => (hin _ h).2, fun h => ?_⟩⟩ s1 hl hL hP (by omega)
    rcases hall a b h.1 h.2 with z | z
    · exact z
    · omega
end
end Sq

namespace Sq
open PySem L2
local macro_rules | `(tactic| walk_at "rd") => `(tactic| simp only [L2.start, List.map_cons, List.map_nil, List.length_cons, List.length_nil, List.replicate, List.cons_append, List.nil_append, List.append_nil, Nat.sub_self, Nat.reduceAdd, Nat.reduceSub,
  tSeq, tRet, tRetN, tNext, tIfS, tDrop, tAsg, tPar, gName, gNil, gCons, gTup, tVar, tC, tOp, tUn, rI, rI0, rU, rEq, rNe, scal_ii, scal_ss, scal_bb, tTest, tB, tAnd, tOr, tNot, tAndV, tOrV, tNotV, tIf, tCB, tCons, tNil, tCall, tChain, tChain3, tLst, tTup, tDGet, tDGet2, tDIn, sDPut, tDNewK, okC, clsV, cxOf_K,
  List.getElem?_cons_zero, List.getElem?_cons_succ, Option.some.injEq, exists_eq_left', exists_eq_left, exists_eq_right, exists_and_left, and_assoc, V.int.injEq, V.bl.injEq, V.ref.injEq, V.str.injEq, List.cons.injEq, and_true, true_and, List.set_cons_zero, List.set_cons_succ,
  if_true, if_false, ↓reduceIte, Bool.false_eq_true, Bool.true_eq_false, Bool.not_true, Bool.not_false, Bool.not_eq_true', decide_eq_true_eq, decide_eq_false_iff_not])
local macro_rules | `(tactic| walk_at "rs") => `(tactic| simp only [L2.start, List.map_cons, List.map_nil, List.length_cons, List.length_nil, List.replicate, List.cons_append, List.nil_append, List.append_nil, Nat.sub_self, Nat.reduceAdd, Nat.reduceSub, cxOf_K])

set_option maxHeartbeats 1000000
def spGcd : Sp := fun vs H Q _ => ∃ a b : Nat, vs = [.int a, .int b] ∧ Q (.int (Nat.gcd a b : Nat)) H
section
variable {P : Program} {w : World} {K : PySem.W.Frag} {mg : Str → Option Value} {base : Heap} {t : Adr}
theorem ok_law_common (T : Txt K mg t) : Known P w K mg base 1 "_law_common" ["_law_one", "_law_other"] spGcd := by
  have S : FnScope ["_law_one", "_law_other"] ["_law_one", "_law_other"] (defScope s__law_common) := ⟨rfl, rfl, rfl, by decide +kernel, rfl, by decide +kernel, by decide +kernel⟩
  refine Known.of T.h__law_common S (fun vs H Q E h => ?_) (fun f cdv A outer s H vs Q E hr h => ?_)
  · obtain ⟨a, b, rfl, _⟩ := h
    rfl
  obtain ⟨a, b, rfl, q⟩ := h
  refine ⟨_, (pss_cons (ps_while PassesOwn.never (pt_cmpR op_gt (pv 1) pe_int (nomark _)) (pss_one (ps_par (i := 0) (j := 1) rfl S.nd rfl rfl (by decide) rfl rfl (pa_cons (pv 1) (pa_cons (pe_op op_mod (pv 0) (pv 1)) pa_nil)) rfl)))
      (pss_one (ps_ret (pv 0)))), ?_⟩
  walk_at "rd"
  refine ⟨fun m σ H' => ∃ x y : Nat, σ = [some (.int x), some (.int y)] ∧ H' = H ∧ Nat.gcd x y = Nat.gcd a b ∧ m = y, ⟨b, a, b, rfl, rfl, rfl, rfl⟩, ?_⟩
  rintro m σ H' ⟨x, y, rfl, rfl, hg, hm⟩
  subst hm
  walk_at "rd"
  by_cases h : 0 < m
  · rw [if_pos (by omega)]
    refine ⟨_, fun σ' H'' h => h, by omega, x % m, Nat.mod_lt _ h, m, x % m, by simp, rfl, ?_, rfl⟩
    rw [Nat.gcd_comm m, ← Nat.gcd_rec, Nat.gcd_comm]
    exact hg
  · rw [if_neg (by omega)]
    have e : m = 0 := by omega
    rw [e, Nat.gcd_zero_right] at hg
    rw [hg]
    exact q
theorem ok_common_divisor (T : Txt K mg t) : Known P w K mg base 1 "common_divisor" ["one", "other"] spGcd := by
  have S : FnScope ["one", "other", "greater", "lesser", "left"] ["one", "other"] (defScope s_common_divisor) := ⟨rfl, rfl, rfl, by decide +kernel, rfl, by decide +kernel, by decide +kernel⟩
  refine Known.of T.h_common_divisor S (fun vs H Q E h => ?_) (fun f cdv A outer s H vs Q E hr h => ?_)
  · obtain ⟨a, b, rfl, _⟩ := h
    rfl
  obtain ⟨a, b, rfl, q⟩ := h
  refine ⟨_, (pss_cons (ps_set (i := 2) S.nd rfl (by first | exact Or.inl rfl | exact Or.inr rfl) (pe_callB (call_max2 rfl) rfl T.z_max bt_max (pa_cons (pv 0) (pa_cons (pv 1) pa_nil))))
      (pss_cons (ps_set (i := 3) S.nd rfl (by first | exact Or.inl rfl | exact Or.inr rfl) (pe_callB (call_min2 rfl) rfl T.z_min bt_min (pa_cons (pv 0) (pa_cons (pv 1) pa_nil))))
      (pss_cons (ps_while PassesOwn.never (pt_cmpR op_gt (pv 3) pe_int (nomark _)) (pss_cons (ps_set (i := 4) S.nd rfl (by first | exact Or.inl rfl | exact Or.inr rfl) (pe_op op_mod (pv 2) (pv 3)))
      (pss_cons (ps_set (i := 2) S.nd rfl (by first | exact Or.inl rfl | exact Or.inr rfl) (pv 3))
      (pss_one (ps_set (i := 3) S.nd rfl (by first | exact Or.inl rfl | exact Or.inr rfl) (pv 4))))))
      (pss_one (ps_ret (pv 2)))))), ?_⟩
  walk_at "rd"
  have e1 : (if (b : Int) > a then (b : Int) else a) = ((max a b : Nat) : Int) := by split <;> omega
  have e2 : (if (b : Int) < a then (b : Int) else a) = ((min a b : Nat) : Int) := by split <;> omega
  have e3 : Nat.gcd (max a b) (min a b) = Nat.gcd a b := by
    rcases Nat.le_total a b with z | z
    · rw [Nat.max_eq_right z, Nat.min_eq_left z, Nat.gcd_comm]
    · rw [Nat.max_eq_left z, Nat.min_eq_right z]
  rw [e1, e2]
  refine ⟨fun m σ H' => ∃ (x y : Nat) (z : Option V), σ = [some (.int a), some (.int b), some (.int x), some (.int y), z] ∧ H' = H ∧ Nat.gcd x y = Nat.gcd a b ∧ m = y, ⟨_, _, _, none, rfl, rfl, e3, rfl⟩, ?_⟩
  rintro m σ H' ⟨x, y, z, rfl, rfl, hg, hm⟩
  subst hm
  walk_at "rd"
  by_cases h : 0 < m
  · rw [if_pos (by omega)]
    refine ⟨_, fun σ' H'' h => h, by omega, x % m, Nat.mod_lt _ h, m, x % m, _, rfl, rfl, ?_, rfl⟩
    rw [Nat.gcd_comm m, ← Nat.gcd_rec, Nat.gcd_comm]
    exact hg
  · rw [if_neg (by omega)]
    have e : m = 0 := by omega
    rw [e, Nat.gcd_zero_right] at hg
    rw [hg]
    exact q
end
end Sq

namespace Sq
open PySem L2
local macro_rules | `(tactic| walk_at "rd") => `(tactic| simp only [L2.start, List.map_cons, List.map_nil, List.length_cons, List.length_nil, List.replicate, List.cons_append, List.nil_append, List.append_nil, Nat.sub_self, Nat.reduceAdd, Nat.reduceSub,
  tSeq, tRet, tRetN, tNext, tIfS, tDrop, tAsg, tPar, gName, gNil, gCons, gTup, tVar, tC, tOp, tUn, rI, rI0, rU, rEq, rNe, scal_ii, scal_ss, scal_bb, tTest, tB, tAnd, tOr, tNot, tAndV, tOrV, tNotV, tIf, tCB, tCons, tNil, tCall, tChain, tChain3, tLst, tTup, tDGet, tDGet2, tDIn, sDPut, tDNewK, okC, clsV, cxOf_K,
  List.getElem?_cons_zero, List.getElem?_cons_succ, Option.some.injEq, exists_eq_left', exists_eq_left, exists_eq_right, exists_and_left, and_assoc, V.int.injEq, V.bl.injEq, V.ref.injEq, V.str.injEq, List.cons.injEq, and_true, true_and, List.set_cons_zero, List.set_cons_succ,
  if_true, if_false, ↓reduceIte, Bool.false_eq_true, Bool.true_eq_false, Bool.not_true, Bool.not_false, Bool.not_eq_true', decide_eq_true_eq, decide_eq_false_iff_not])
local macro_rules | `(tactic| walk_at "rs") => `(tactic| simp only [L2.start, List.map_cons, List.map_nil, List.length_cons, List.length_nil, List.replicate, List.cons_append, List.nil_append, List.append_nil, Nat.sub_self, Nat.reduceAdd, Nat.reduceSub, cxOf_K])

set_option maxHeartbeats 1000000
theorem P3.same {H H' : Hp} (s : Same H H') : ∀ {xs : List V} {ps : List (Nat × Nat × Nat)}, P3 H xs ps → P3 H' xs ps
  | [], [], _ => trivial
  | _ :: _, _ :: _, ⟨⟨a, e, h⟩, r⟩ => ⟨⟨a, e, s _ _ h⟩, P3.same s r⟩
theorem P3.upd {H : Hp} {l : Addr} {ys : List V} {o : HO} (hl : H l = some (.lst ys)) : ∀ {xs : List V} {ps : List (Nat × Nat × Nat)}, P3 H xs ps → P3 (L2.upd H l o) xs ps
  | [], [], _ => trivial
  | _ :: _, _ :: _, ⟨⟨a, e, h⟩, r⟩ => ⟨⟨a, e, by
      have n : a ≠ l := fun z => by rw [z, hl] at h; cases h
      rw [upd_ne n]; exact h⟩, P3.upd hl r⟩
theorem P3.append {H : Hp} {a : Addr} {p : Nat × Nat × Nat} (h : H a = some (.tup [.int (p.1 : Int), .int (p.2.1 : Int), .int (p.2.2 : Int)])) : ∀ {xs : List V} {ps : List (Nat × Nat × Nat)}, P3 H xs ps → P3 H (xs ++ [.ref a]) (ps ++ [p])
  | [], [], _ => ⟨⟨a, rfl, h⟩, trivial⟩
  | _ :: _, _ :: _, ⟨g, r⟩ => ⟨g, P3.append h r⟩
theorem P3.length {H : Hp} : ∀ {xs : List V} {ps : List (Nat × Nat × Nat)}, P3 H xs ps → xs.length = ps.length
  | [], [], _ => rfl
  | _ :: _, _ :: _, ⟨_, r⟩ => congrArg (· + 1) (P3.length r)
/-- the walks of one third, by its pairs -/
def wOf (c : Nat) (ps : List (Nat × Nat)) : List (Nat × Nat × Nat) := (ps.filter fun p => decide (0 < p.1)).map fun p => (p.1, p.2, c)
/-- all walks to a third, third by third -/
inductive IsW : Nat → List (Nat × Nat × Nat) → Prop
  | nil : IsW 0 []
  | step {M : Nat} {ts : List (Nat × Nat × Nat)} {ps : List (Nat × Nat)} : IsW M ts → IsPairs ((M + 1) * (M + 1)) ps → IsW (M + 1) (ts ++ wOf (M + 1) ps)
theorem IsW.unique : ∀ {M : Nat} {ts us : List (Nat × Nat × Nat)}, IsW M ts → IsW M us → ts = us
  | _, _, _, .nil, .nil => rfl
  | _, _, _, .step h p, .step g q => by rw [h.unique g, p.unique q]
def spWalks : Sp := fun vs H Q _ => ∃ M : Nat, vs = [.int M] ∧ M ≤ 300 ∧ ∀ (ts : List (Nat × Nat × Nat)) (l : Addr) (xs : List V) (H' : Hp), IsW M ts → Same H H' → H l = none → H' l = some (.lst xs) → P3 H' xs ts → ts.length ≤ 300 * 1000 → Q (.ref l) H'
section
variable {P : Program} {w : World} {K : PySem.W.Frag} {mg : Str → Option Value} {base : Heap} {t : Adr}
theorem ok_walks (T : Txt K mg t) (K_is_number : Known P w K mg base 2 "is_number" ["value"] spNumber) (K_pairs_of : Known P w K mg base 2 "pairs_of" ["number"] spPairs) : Known P w K mg base 3 "walks" ["most"] spWalks := by
  have S : FnScope ["most", "found", "third", "pair"] ["most"] (defScope s_walks) := ⟨rfl, rfl, rfl, by decide +kernel, rfl, by decide +kernel, by decide +kernel⟩
  refine Known.of T.h_walks S (fun vs H Q E h => ?_) (fun f cdv A outer s H vs Q E hr h => ?_)
  · obtain ⟨M, rfl, _⟩ := h
    rfl
  obtain ⟨M, rfl, hM, q⟩ := h
  refine ⟨_, (pss_cons (ps_if (PW.pt (pw_or (pt_not (pt_val (pe_fn K_is_number hr rfl (pa_cons (pv 0) pa_nil)))) (pw_or1 (pt_cmpR op_gt (pv 0) (pe_globI rfl T.g_MOST_THIRD) (nomark _))))) (pss_one ps_never)
      pss_nil)
      (pss_cons (ps_set (i := 1) S.nd rfl (by first | exact Or.inl rfl | exact Or.inr rfl) (pe_lst pa_nil))
      (pss_cons (ps_for PassesOwn.never rfl (pi_range2 rfl T.z_range (pa_cons pe_int (pa_cons (pe_op op_add (pv 0) pe_int) pa_nil))) (pg_name (i := 2) S.nd rfl (by first | exact Or.inl rfl | exact Or.inr rfl)) (pss_one (ps_for PassesOwn.never rfl (pi_list (pe_fn K_pairs_of hr rfl (pa_cons (pe_op op_mul (pv 2) (pv 2)) pa_nil))) (pg_name (i := 3) S.nd rfl (by first | exact Or.inl rfl | exact Or.inr rfl)) (pss_one (ps_if (pt_cmpR op_gt (pe_ix ix_tup (pv 3) pe_int (fun _ _ => rfl)) pe_int (nomark _)) (pss_one (ps_expr (pe_bm PySem.F.plainAttrs_list PySem.F.slot_list_append PySem.F.type_list_append mt_append (pv 1) (pa_cons (pe_tup (pa_cons (pe_ix ix_tup (pv 3) pe_int (fun _ _ => rfl)) (pa_cons (pe_ix ix_tup (pv 3) pe_int (fun _ _ => rfl)) (pa_cons (pv 2) pa_nil)))) pa_nil))))
      pss_nil)))))
      (pss_one (ps_ret (pv 1)))))), ?_⟩
  walk_at "rd"
  simp only [spNumber]
  walk_at "rd"
  rw [if_neg (by rw [okI_iff.mpr (show 0 ≤ (M : Int) ∧ (M : Int) ≤ 10000 by omega)]; decide), if_neg (by omega)]
  refine ⟨by show 0 ≤ sizeLine; decide, fun l hl => ?_⟩
  refine ⟨_, rfl, _, _, rfl, rfl, 1, (M : Int) + 1, rfl, ⟨by decide, by decide, by omega, by omega⟩, ?_⟩
  have eM : ((M : Int) + 1 - 1).toNat = M := by omega
  rw [eM]
  refine for_range (n := M) (fun i σ H1 => ∃ (ts : List (Nat × Nat × Nat)) (xs : List V) (y2 y3 : Option V), σ = [some (.int M), some (.ref l), y2, y3] ∧ Same H H1 ∧ H1 l = some (.lst xs) ∧ P3 H1 xs ts ∧ IsW i ts ∧ ts.length ≤ i * 1000)
    ⟨[], [], none, none, rfl, Same.upd hl _, upd_same, trivial, .nil, Nat.le_refl _⟩ ?_ ?_
  · rintro i σ H1 hi ⟨ts, xs, y2, y3, rfl, s1, hL, hP, hW, hlen⟩
    walk_at "rd"
    have e2 : (1 + (i : Int)) = ((i + 1 : Nat) : Int) := by omega
    rw [e2]
    obtain ⟨c, hc⟩ : ∃ c : Nat, i + 1 = c := ⟨_, rfl⟩
    rw [hc]
    have c1 : c ≤ 300 := by omega
    have b1 : c * c ≤ 100000 := by
      have := Nat.mul_le_mul c1 c1
      omega
    refine ⟨_, rfl, _, rfl, _, _, rfl, rfl, .inl ⟨by omega, by omega⟩, c * c, rfl, b1, fun ps pl zs H2 hps s2 hpl hpL hpP hpz => ⟨pl, rfl, ⟨_, SqL.of hpL⟩, ?_⟩⟩
    have npl : l ≠ pl := fun z => by rw [← z, hL] at hpl; cases hpl
    refine for_list (K := K) (a := pl) (xs := zs) (fun j σ H3 => ∃ (xs3 : List V) (y : Option V), σ = [some (.int M), some (.ref l), some (.int (c : Int)), y] ∧ Same H H3 ∧ H3 pl = some (.lst zs) ∧ PL H3 zs ps ∧ H3 l = some (.lst xs3) ∧ P3 H3 xs3 (ts ++ wOf c (ps.take j)) ∧ (ts ++ wOf c (ps.take j)).length ≤ i * 1000 + j)
      ⟨xs, _, rfl, s1.trans s2, hpL, hpP, s2 _ _ hL, by rw [List.take_zero]; show P3 H2 xs (ts ++ []); rw [List.append_nil]; exact hP.same s2, by rw [List.take_zero]; show (ts ++ []).length ≤ _; rw [List.append_nil]; omega⟩ (fun j σ H3 _ ⟨_, _, _, _, h, _⟩ => SqL.of h) ?_ ?_
    · rintro j v σ H3 hj ⟨xs3, y, rfl, s3, hpL3, hpP3, hL3, hP3, hl3⟩
      obtain ⟨pp, a, hpi, rfl, ha⟩ := hpP3.get hj
      have hlt : j < ps.length := (List.getElem?_eq_some_iff.mp hpi).1
      have ej : ps[j] = pp := by
        rw [List.getElem?_eq_getElem hlt] at hpi
        exact Option.some.inj hpi
      have ix : ∀ (k : Nat) (v : V) (R : VK), ([.int (pp.1 : Int), .int (pp.2 : Int)] : List V)[k]? = some v → R v H3 → rIxT K (.ref a) (.int (k : Int)) H3 R := fun k v R e r => ⟨a, _, _, v, rfl, rfl, SqT.of ha, atI_nat e, r⟩
      walk_at "rd"
      refine ix 0 _ _ rfl ⟨_, rfl, ?_⟩
      by_cases h0 : 0 < pp.1
      · have ew : wOf c (ps.take (j + 1)) = wOf c (ps.take j) ++ [(pp.1, pp.2, c)] := by
          unfold wOf
          rw [List.take_succ_eq_append_getElem hlt, ej, List.filter_append, List.map_append]
          simp [h0]
        rw [if_pos (by omega)]
        refine ⟨_, rfl, .inl ⟨rfl, _, SqL.of hL3⟩, ?_⟩
        walk_at "rd"
        refine ix 0 _ _ rfl (ix 1 _ _ rfl ⟨by show 3 ≤ sizeLine; decide, fun u hu => ?_⟩)
        have hlen3 : xs3.length ≤ i * 1000 + j := by rw [hP3.length]; exact hl3
        have t1 := Same.upd hu (.tup [V.int (pp.1 : Int), V.int (pp.2 : Int), V.int (c : Int)])
        have hu1 : upd H3 u (.tup [V.int (pp.1 : Int), V.int (pp.2 : Int), V.int (c : Int)]) u = some (.tup [V.int (pp.1 : Int), V.int (pp.2 : Int), V.int (c : Int)]) := upd_same
        generalize upd H3 u (.tup [V.int (pp.1 : Int), V.int (pp.2 : Int), V.int (c : Int)]) = H4 at t1 hu1
        have hL4 := t1 _ _ hL3
        refine ⟨l, xs3, _, rfl, rfl, hL4, Nat.lt_of_le_of_lt (show xs3.length ≤ 301000 by omega) (by decide), fun b o e => ?_, ?_, (hpP3.same t1).upd hL4, xs3 ++ [.ref u], upd_same, ?_, ?_⟩
        · rw [upd_ne (ne_of_none e hl)]
          exact t1 _ _ (s3 _ _ e)
        · rw [upd_ne npl.symm]
          exact t1 _ _ hpL3
        · rw [ew, ← List.append_assoc]
          exact ((hP3.same t1).append hu1).upd hL4
        · rw [ew, ← List.append_assoc, List.length_append]
          show _ + 1 ≤ _
          omega
      · have ew : wOf c (ps.take (j + 1)) = wOf c (ps.take j) := by
          unfold wOf
          rw [List.take_succ_eq_append_getElem hlt, ej, List.filter_append, List.map_append]
          simp [h0]
        rw [if_neg (by omega)]
        refine ⟨s3, hpL3, hpP3, xs3, hL3, ?_, ?_⟩
        · rw [ew]
          exact hP3
        · rw [ew]
          omega
    · rintro σ H3 ⟨xs3, y, rfl, s3, hpL3, hpP3, hL3, hP3, hl3⟩
      rw [hpP.length, List.take_length] at hP3 hl3
      exact ⟨_, xs3, _, _, rfl, s3, hL3, hP3, hc ▸ (IsW.step hW (hc ▸ hps)), by omega⟩
  · rintro σ H1 ⟨ts, xs, y2, y3, rfl, s1, hL, hP, hW, hlen⟩
    walk_at "rd"
    exact q ts l xs H1 hW s1 hl hL hP (Nat.le_trans hlen (Nat.mul_le_mul hM (Nat.le_refl _)))
end
end Sq

namespace Sq
open PySem L2
local macro_rules | `(tactic| walk_at "rd") => `(tactic| simp only [L2.start, List.map_cons, List.map_nil, List.length_cons, List.length_nil, List.replicate, List.cons_append, List.nil_append, List.append_nil, Nat.sub_self, Nat.reduceAdd, Nat.reduceSub,
  tSeq, tRet, tRetN, tNext, tIfS, tDrop, tAsg, tPar, gName, gNil, gCons, gTup, tVar, tC, tOp, tUn, rI, rI0, rU, rEq, rNe, scal_ii, scal_ss, scal_bb, tTest, tB, tAnd, tOr, tNot, tAndV, tOrV, tNotV, tIf, tCB, tCons, tNil, tCall, tChain, tChain3, tLst, tTup, tDGet, tDGet2, tDIn, sDPut, tDNewK, okC, clsV, cxOf_K,
  List.getElem?_cons_zero, List.getElem?_cons_succ, Option.some.injEq, exists_eq_left', exists_eq_left, exists_eq_right, exists_and_left, and_assoc, V.int.injEq, V.bl.injEq, V.ref.injEq, V.str.injEq, List.cons.injEq, and_true, true_and, List.set_cons_zero, List.set_cons_succ,
  if_true, if_false, ↓reduceIte, Bool.false_eq_true, Bool.true_eq_false, Bool.not_true, Bool.not_false, Bool.not_eq_true', decide_eq_true_eq, decide_eq_false_iff_not])
local macro_rules | `(tactic| walk_at "rs") => `(tactic| simp only [L2.start, List.map_cons, List.map_nil, List.length_cons, List.length_nil, List.replicate, List.cons_append, List.nil_append, List.append_nil, Nat.sub_self, Nat.reduceAdd, Nat.reduceSub, cxOf_K])

set_option maxHeartbeats 1000000
theorem sort2n {x y : Nat} {ns : List Int} (hp : ns.Perm [(x : Int), (y : Int)]) (hs : ns.Pairwise (· ≤ ·)) : ns = [((min x y : Nat) : Int), ((max x y : Nat) : Int)] := by
  have hl := hp.length_eq
  match ns, hl with
  | [u, v], _ =>
    have huv : u ≤ v := by
      rw [List.pairwise_cons] at hs
      exact hs.1 v (List.mem_singleton.mpr rfl)
    have hu : u ∈ [(x : Int), (y : Int)] := hp.subset (by simp)
    have hv : v ∈ [(x : Int), (y : Int)] := hp.subset (by simp)
    have hx : (x : Int) ∈ [u, v] := hp.symm.subset (by simp)
    have hy : (y : Int) ∈ [u, v] := hp.symm.subset (by simp)
    simp only [List.mem_cons, List.not_mem_nil, or_false] at hu hv hx hy
    have e1 : u = ((min x y : Nat) : Int) := by omega
    have e2 : v = ((max x y : Nat) : Int) := by omega
    rw [e1, e2]
def spMade : Sp := fun vs H Q _ => ∃ m n k : Nat, vs = [.int m, .int n, .int k] ∧ n ≤ m ∧ m ≤ 10000 ∧ k ≤ 10000 ∧ ∀ (p : Addr) (H' : Hp), Same H H' → H p = none → H' p = some (.tup [.int ((made m n k).1 : Nat), .int ((made m n k).2.1 : Nat), .int ((made m n k).2.2 : Nat)]) → Q (.ref p) H'
section
variable {P : Program} {w : World} {K : PySem.W.Frag} {mg : Str → Option Value} {base : Heap} {t : Adr}
theorem ok_law_made (T : Txt K mg t) : Known P w K mg base 1 "_law_made" ["_law_m", "_law_n", "_law_k"] spMade := by
  have S : FnScope ["_law_m", "_law_n", "_law_k", "_law_sides"] ["_law_m", "_law_n", "_law_k"] (defScope s__law_made) := ⟨rfl, rfl, rfl, by decide +kernel, rfl, by decide +kernel, by decide +kernel⟩
  refine Known.of T.h__law_made S (fun vs H Q E h => ?_) (fun f cdv A outer s H vs Q E hr h => ?_)
  · obtain ⟨m, n, k, rfl, _⟩ := h
    rfl
  obtain ⟨m, n, k, rfl, hnm, hm, hk, q⟩ := h
  refine ⟨_, (pss_cons (ps_set (i := 3) S.nd rfl (by first | exact Or.inl rfl | exact Or.inr rfl) (pe_callB call_sorted_ints rfl T.z_sorted bt_sorted (pa_cons (pe_lst (pa_cons (pe_op op_mul (pv 2) (pe_op op_sub (pe_op op_mul (pv 0) (pv 0)) (pe_op op_mul (pv 1) (pv 1)))) (pa_cons (pe_op op_mul (pe_op op_mul (pe_op op_mul (pv 2) pe_int) (pv 0)) (pv 1)) pa_nil))) pa_nil)))
      (pss_one (ps_ret (pe_tup (pa_cons (pe_op op_mul (pv 2) (pe_op op_add (pe_op op_mul (pv 0) (pv 0)) (pe_op op_mul (pv 1) (pv 1)))) (pa_cons (pe_ix ix_list (pv 3) pe_int (fun _ _ => rfl)) (pa_cons (pe_ix ix_list (pv 3) pe_int (fun _ _ => rfl)) pa_nil))))))), ?_⟩
  walk_at "rd"
  have sq : n * n ≤ m * m := Nat.mul_le_mul hnm hnm
  have eA : (k : Int) * ((m : Int) * m - (n : Int) * n) = ((k * (m * m - n * n) : Nat) : Int) := by
    rw [Int.natCast_mul, Int.natCast_sub sq, Int.natCast_mul, Int.natCast_mul]
  have eB : (k : Int) * 2 * m * n = ((k * 2 * m * n : Nat) : Int) := by push_cast; rfl
  have eC : (k : Int) * ((m : Int) * m + (n : Int) * n) = ((k * (m * m + n * n) : Nat) : Int) := by push_cast; rfl
  rw [eA, eB, eC]
  have cm : CMul (m : Int) m := .inl ⟨by omega, by omega⟩
  have cn : CMul (n : Int) n := .inl ⟨by omega, by omega⟩
  refine ⟨cm, cn, .inl ⟨by omega, by omega⟩, .inl ⟨by omega, by omega⟩, .inr ⟨by omega, by omega⟩, .inr ⟨by omega, by omega⟩, by show 2 ≤ sizeLine; decide, fun p hp => ?_⟩
  refine ⟨[((k * (m * m - n * n) : Nat) : Int), ((k * 2 * m * n : Nat) : Int)], SqL.of upd_same, by show 2 < 64; decide, fun ns' l hpm hpw hl => ?_⟩
  obtain rfl := sort2n hpm hpw
  refine ⟨cm, cn, .inl ⟨by omega, by omega⟩, ?_⟩
  have s1 := (Same.upd hp (.lst [V.int ((k * (m * m - n * n) : Nat) : Int), V.int ((k * 2 * m * n : Nat) : Int)])).trans (Same.upd hl (.lst (List.map V.int [((min (k * (m * m - n * n)) (k * 2 * m * n) : Nat) : Int), ((max (k * (m * m - n * n)) (k * 2 * m * n) : Nat) : Int)])))
  have hL : upd (upd H p (.lst [V.int ((k * (m * m - n * n) : Nat) : Int), V.int ((k * 2 * m * n : Nat) : Int)])) l (.lst (List.map V.int [((min (k * (m * m - n * n)) (k * 2 * m * n) : Nat) : Int), ((max (k * (m * m - n * n)) (k * 2 * m * n) : Nat) : Int)])) l = some (.lst [V.int ((min (k * (m * m - n * n)) (k * 2 * m * n) : Nat) : Int), V.int ((max (k * (m * m - n * n)) (k * 2 * m * n) : Nat) : Int)]) := upd_same
  generalize upd (upd H p (.lst [V.int ((k * (m * m - n * n) : Nat) : Int), V.int ((k * 2 * m * n : Nat) : Int)])) l (.lst (List.map V.int [((min (k * (m * m - n * n)) (k * 2 * m * n) : Nat) : Int), ((max (k * (m * m - n * n)) (k * 2 * m * n) : Nat) : Int)])) = H1 at s1 hL
  refine ⟨l, _, _, _, rfl, rfl, SqL.of hL, atI_nat (j := 0) rfl, l, _, _, _, rfl, rfl, SqL.of hL, atI_nat (j := 1) rfl, by show 3 ≤ sizeLine; decide, fun u hu => ?_⟩
  refine q u _ (s1.trans (Same.upd hu _)) ?_ upd_same
  cases e : H u with
  | none => rfl
  | some o => rw [s1 _ _ e] at hu; cases hu
end
end Sq

namespace Sq
open PySem L2
local macro_rules | `(tactic| walk_at "rd") => `(tactic| simp only [L2.start, List.map_cons, List.map_nil, List.length_cons, List.length_nil, List.replicate, List.cons_append, List.nil_append, List.append_nil, Nat.sub_self, Nat.reduceAdd, Nat.reduceSub,
  tSeq, tRet, tRetN, tNext, tIfS, tDrop, tAsg, tPar, gName, gNil, gCons, gTup, tVar, tC, tOp, tUn, rI, rI0, rU, rEq, rNe, scal_ii, scal_ss, scal_bb, tTest, tB, tAnd, tOr, tNot, tAndV, tOrV, tNotV, tIf, tCB, tCons, tNil, tCall, tChain, tChain3, tLst, tTup, tDGet, tDGet2, tDIn, sDPut, tDNewK, okC, clsV, cxOf_K,
  List.getElem?_cons_zero, List.getElem?_cons_succ, Option.some.injEq, exists_eq_left', exists_eq_left, exists_eq_right, exists_and_left, and_assoc, V.int.injEq, V.bl.injEq, V.ref.injEq, V.str.injEq, List.cons.injEq, and_true, true_and, List.set_cons_zero, List.set_cons_succ,
  if_true, if_false, ↓reduceIte, Bool.false_eq_true, Bool.true_eq_false, Bool.not_true, Bool.not_false, Bool.not_eq_true', decide_eq_true_eq, decide_eq_false_iff_not])
local macro_rules | `(tactic| walk_at "rs") => `(tactic| simp only [L2.start, List.map_cons, List.map_nil, List.length_cons, List.length_nil, List.replicate, List.cons_append, List.nil_append, List.append_nil, Nat.sub_self, Nat.reduceAdd, Nat.reduceSub, cxOf_K])

set_option maxHeartbeats 1000000
def spSrcRight : Sp := fun vs H Q _ => ∃ (p u : Addr) (m n k a b c : Nat), vs = [.ref p, .ref u] ∧ H p = some (.tup [.int a, .int b, .int c]) ∧ H u = some (.tup [.int m, .int n, .int k]) ∧ Src m n k ∧ made m n k = (c, a, b) ∧ ∀ H', Same H H' → Q (.bl true) H'
section
variable {P : Program} {w : World} {K : PySem.W.Frag} {mg : Str → Option Value} {base : Heap} {t : Adr}
theorem ok_law_source_right (T : Txt K mg t) (K__law_common : Known P w K mg base 1 "_law_common" ["_law_one", "_law_other"] spGcd) (K__law_made : Known P w K mg base 1 "_law_made" ["_law_m", "_law_n", "_law_k"] spMade) : Known P w K mg base 2 "_law_source_right" ["_law_walk", "_law_found"] spSrcRight := by
  have S : FnScope ["_law_walk", "_law_found", "_law_m", "_law_n", "_law_k", "_law_third", "_law_one", "_law_other"] ["_law_walk", "_law_found"] (defScope s__law_source_right) := ⟨rfl, rfl, rfl, by decide +kernel, rfl, by decide +kernel, by decide +kernel⟩
  refine Known.of T.h__law_source_right S (fun vs H Q E h => ?_) (fun f cdv A outer s H vs Q E hr h => ?_)
  · obtain ⟨p, u, m, n, k, a, b, c, rfl, _⟩ := h
    rfl
  obtain ⟨p, u, m, n, k, a, b, c, rfl, hp, hu, hs, hm, q⟩ := h
  refine ⟨_, (pss_cons (ps_if (PW.pt (pw_or (pt_not (pt_val (pe_callB call_isinst rfl T.z_isinstance bt_isinstance (pa_cons (pv 1) (pa_cons (pe_ty rfl T.z_tuple bt_tuple) pa_nil))))) (pw_or1 (pt_cmpR op_ne (pe_callB call_len_seq rfl T.z_len bt_len (pa_cons (pv 1) pa_nil)) pe_int (nomark _))))) (pss_one (ps_ret pe_bl))
      pss_nil)
      (pss_cons (ps_if (pt_val (pe_callB (call_any_list hr.hd) rfl T.z_any bt_any (pa_cons (pe_comp (N' := ["_law_number"]) (cap := [none]) rfl (pi_tup (pv 1)) (by show scopeOk _ (defScope s__law_source_right) = true; decide +kernel) (by show capsOk ["_law_walk", "_law_found", "_law_m", "_law_n", "_law_k", "_law_third", "_law_one", "_law_other"] _ _ _ = true; decide +kernel) (fun _ _ _ _ => ⟨(pg_name (i := 0) (show List.Nodup (["_law_number"] : List Str) by decide +kernel) rfl (by first | exact Or.inl rfl | exact Or.inr rfl)), pf_nil, (pe_or (pe_callB (call_isinstK (K := K) rfl) rfl T.z_isinstance bt_isinstance (pa_cons (pv 0) (pa_cons (pe_ty rfl T.z_bool bt_bool) pa_nil))) (pe_one (pe_not (pe_callB (call_isinstK (K := K) rfl) rfl T.z_isinstance bt_isinstance (pa_cons (pv 0) (pa_cons (pe_ty rfl T.z_int bt_int) pa_nil))))))⟩)) pa_nil))) (pss_one (ps_ret pe_bl))
      pss_nil)
      (pss_cons (ps_asg (pv 1) (pg_tup (n := 3) rfl (pgs_cons (pg_name (i := 2) S.nd rfl (by first | exact Or.inl rfl | exact Or.inr rfl)) (pgs_cons (pg_name (i := 3) S.nd rfl (by first | exact Or.inl rfl | exact Or.inr rfl)) (pgs_cons (pg_name (i := 4) S.nd rfl (by first | exact Or.inl rfl | exact Or.inr rfl)) pgs_nil)))))
      (pss_cons (ps_if (PW.pt (pw_or (pt_not (pt_chain op_gt op_gt (pv 2) (pv 3) pe_int)) (pw_or (pt_cmpR op_lt (pv 4) pe_int (nomark _)) (pw_or (pt_cmpR op_eq (pe_op op_mod (pe_op op_add (pv 2) (pv 3)) pe_int) pe_int (nomark _)) (pw_or1 (pt_cmpR op_ne (pe_fn K__law_common hr rfl (pa_cons (pv 2) (pa_cons (pv 3) pa_nil))) pe_int (nomark _))))))) (pss_one (ps_ret pe_bl))
      pss_nil)
      (pss_cons (ps_asg (pe_fn K__law_made hr rfl (pa_cons (pv 2) (pa_cons (pv 3) (pa_cons (pv 4) pa_nil)))) (pg_tup (n := 3) rfl (pgs_cons (pg_name (i := 5) S.nd rfl (by first | exact Or.inl rfl | exact Or.inr rfl)) (pgs_cons (pg_name (i := 6) S.nd rfl (by first | exact Or.inl rfl | exact Or.inr rfl)) (pgs_cons (pg_name (i := 7) S.nd rfl (by first | exact Or.inl rfl | exact Or.inr rfl)) pgs_nil)))))
      (pss_one (ps_ret (pe_cmpR (op_eqD hr.units) (pe_tup (pa_cons (pv 6) (pa_cons (pv 7) (pa_cons (pv 5) pa_nil)))) (pv 0) (nomark _))))))))), ?_⟩
  walk_at "rd"
  refine ⟨true, inst_tt hu, ?_⟩
  walk_at "rd"
  refine ⟨_, .inr (SqT.of hu), ?_⟩
  rw [if_neg (fun z => z rfl)]
  refine rd_compT (fun _ => .bl false) rfl (SqT.of hu) (by show 3 ≤ sizeLine; decide) (fun x hx R r' => ?_) (fun D hD => ?_)
  · have hx2 : ∃ n : Int, x = .int n := by
      simp only [List.mem_cons, List.not_mem_nil, or_false] at hx
      rcases hx with z | z | z <;> exact ⟨_, z⟩
    obtain ⟨v, rfl⟩ := hx2
    walk_at "rd"
    refine ⟨false, inst_ib _ _ _, ?_⟩
    walk_at "rd"
    exact ⟨true, inst_ii _ _ _, r'⟩
  refine ⟨D, rfl, [false, false, false], SqL.of upd_same, ?_⟩
  rw [if_neg (by decide)]
  have s1 : Same H (upd H D (.lst (List.map (fun _ => V.bl false) [V.int (m : Int), V.int (n : Int), V.int (k : Int)]))) := Same.upd hD _
  generalize upd H D (.lst (List.map (fun _ => V.bl false) [V.int (m : Int), V.int (n : Int), V.int (k : Int)])) = H1 at s1
  obtain ⟨g1, g2, g3, g4, g5, g6, g7⟩ := hs
  refine ⟨_, SqT.of (s1 _ _ hu), rfl, _, _, rfl, _, _, rfl, _, _, rfl, rfl, _, rfl, _, rfl, ?_⟩
  rw [if_pos (by omega)]
  refine ⟨_, rfl, ?_⟩
  rw [if_neg (by omega)]
  refine ⟨_, rfl, ?_⟩
  rw [if_neg (by omega)]
  refine ⟨_, rfl, _, rfl, by decide, ?_⟩
  rw [if_neg (by omega)]
  refine ⟨m, n, rfl, rfl, ?_⟩
  rw [g5, if_neg (fun z => z rfl)]
  refine ⟨m, n, k, rfl, by omega, g6, g7, fun o H2 s2 _ ho => ?_⟩
  rw [hm] at ho
  refine ⟨o, rfl, _, SqT.of ho, rfl, _, _, rfl, _, _, rfl, _, _, rfl, rfl, by show 3 ≤ sizeLine; decide, fun z hz => ?_⟩
  have s3 := Same.upd hz (.tup [V.int (a : Int), V.int (b : Int), V.int (c : Int)])
  have hz3 : upd H2 z (.tup [V.int (a : Int), V.int (b : Int), V.int (c : Int)]) z = some (.tup [V.int (a : Int), V.int (b : Int), V.int (c : Int)]) := upd_same
  generalize upd H2 z (.tup [V.int (a : Int), V.int (b : Int), V.int (c : Int)]) = H3 at s3 hz3
  have hp3 := s3 _ _ (s2 _ _ (s1 _ _ hp))
  refine ⟨.tuple [.int a, .int b, .int c], .tup (SqT.of hz3) (.cons (.int _) (.cons (.int _) (.cons (.int _) .nil))), .tuple [.int a, .int b, .int c], .tup (SqT.of hp3) (.cons (.int _) (.cons (.int _) (.cons (.int _) .nil))), by rfl, by rfl, ?_⟩
  have ev : PyData.eqv (.tuple [.int (a : Int), .int (b : Int), .int (c : Int)]) (.tuple [.int (a : Int), .int (b : Int), .int (c : Int)]) = true := by simp [PyData.eqv, PyData.eqvAll]
  rw [ev]
  exact q _ ((s1.trans s2).trans s3)
end
end Sq

namespace Sq
open PySem L2
local macro_rules | `(tactic| walk_at "rd") => `(tactic| simp only [L2.start, List.map_cons, List.map_nil, List.length_cons, List.length_nil, List.replicate, List.cons_append, List.nil_append, List.append_nil, Nat.sub_self, Nat.reduceAdd, Nat.reduceSub,
  tSeq, tRet, tRetN, tNext, tIfS, tDrop, tAsg, tPar, gName, gNil, gCons, gTup, tVar, tC, tOp, tUn, rI, rI0, rU, rEq, rNe, scal_ii, scal_ss, scal_bb, tTest, tB, tAnd, tOr, tNot, tAndV, tOrV, tNotV, tIf, tCB, tCons, tNil, tCall, tChain, tChain3, tLst, tTup, tDGet, tDGet2, tDIn, sDPut, tDNewK, okC, clsV, cxOf_K,
  List.getElem?_cons_zero, List.getElem?_cons_succ, Option.some.injEq, exists_eq_left', exists_eq_left, exists_eq_right, exists_and_left, and_assoc, V.int.injEq, V.bl.injEq, V.ref.injEq, V.str.injEq, List.cons.injEq, and_true, true_and, List.set_cons_zero, List.set_cons_succ,
  if_true, if_false, ↓reduceIte, Bool.false_eq_true, Bool.true_eq_false, Bool.not_true, Bool.not_false, Bool.not_eq_true', decide_eq_true_eq, decide_eq_false_iff_not])
local macro_rules | `(tactic| walk_at "rs") => `(tactic| simp only [L2.start, List.map_cons, List.map_nil, List.length_cons, List.length_nil, List.replicate, List.cons_append, List.nil_append, List.append_nil, Nat.sub_self, Nat.reduceAdd, Nat.reduceSub, cxOf_K])

set_option maxHeartbeats 1000000
def spIsWalk : Sp := fun vs H Q _ => ∃ (p : Addr) (a b c : Nat), vs = [.ref p] ∧ H p = some (.tup [.int a, .int b, .int c]) ∧ Walk a b c ∧ ∀ H', Same H H' → Q (.bl true) H'
section
variable {P : Program} {w : World} {K : PySem.W.Frag} {mg : Str → Option Value} {base : Heap} {t : Adr}
theorem ok_is_walk (T : Txt K mg t) (K_is_number : Known P w K mg base 2 "is_number" ["value"] spNumber) : Known P w K mg base 3 "is_walk" ["value"] spIsWalk := by
  have S : FnScope ["value"] ["value"] (defScope s_is_walk) := ⟨rfl, rfl, rfl, by decide +kernel, rfl, by decide +kernel, by decide +kernel⟩
  refine Known.of T.h_is_walk S (fun vs H Q E h => ?_) (fun f cdv A outer s H vs Q E hr h => ?_)
  · obtain ⟨p, a, b, c, rfl, _⟩ := h
    rfl
  obtain ⟨p, a, b, c, rfl, hp, ⟨g1, g2, g3, g4, g5⟩, q⟩ := h
  refine ⟨_, (pss_cons (ps_if (PW.pt (pw_or (pt_not (pt_val (pe_callB call_isinst rfl T.z_isinstance bt_isinstance (pa_cons (pv 0) (pa_cons (pe_ty rfl T.z_tuple bt_tuple) pa_nil))))) (pw_or (pt_cmpR op_ne (pe_callB call_len_seq rfl T.z_len bt_len (pa_cons (pv 0) pa_nil)) pe_int (nomark _)) (pw_or1 (pt_not (pt_val (pe_callB (call_all_list hr.hd) rfl T.z_all bt_all (pa_cons (pe_comp (N' := ["side"]) (cap := [none]) rfl (pi_tup (pv 0)) (by show scopeOk _ (defScope s_is_walk) = true; decide +kernel) (by show capsOk ["value"] _ _ _ = true; decide +kernel) (fun _ _ _ _ => ⟨(pg_name (i := 0) (show List.Nodup (["side"] : List Str) by decide +kernel) rfl (by first | exact Or.inl rfl | exact Or.inr rfl)), pf_nil, (pe_fn K_is_number hr rfl (pa_cons (pv 0) pa_nil))⟩)) pa_nil)))))))) (pss_one (ps_ret pe_bl))
      pss_nil)
      (pss_cons (ps_if (pt_not (pt_chain3 op_lt op_lt op_lt pe_int (pe_ix ix_tup (pv 0) pe_int (fun _ _ => rfl)) (pe_ix ix_tup (pv 0) pe_int (fun _ _ => rfl)) (pe_ix ix_tup (pv 0) pe_int (fun _ _ => rfl)))) (pss_one (ps_ret pe_bl))
      pss_nil)
      (pss_one (ps_ret (pe_cmpR op_eq (pe_op op_add (pe_op op_mul (pe_ix ix_tup (pv 0) pe_int (fun _ _ => rfl)) (pe_ix ix_tup (pv 0) pe_int (fun _ _ => rfl))) (pe_op op_mul (pe_ix ix_tup (pv 0) pe_int (fun _ _ => rfl)) (pe_ix ix_tup (pv 0) pe_int (fun _ _ => rfl)))) (pe_op op_mul (pe_ix ix_tup (pv 0) pe_int (fun _ _ => rfl)) (pe_ix ix_tup (pv 0) pe_int (fun _ _ => rfl))) (nomark _)))))), ?_⟩
  walk_at "rd"
  refine ⟨true, inst_tt hp, ?_⟩
  walk_at "rd"
  refine ⟨_, .inr (SqT.of hp), ?_⟩
  rw [if_neg (fun z => z rfl)]
  refine rd_compT (fun _ => .bl true) rfl (SqT.of hp) (by show 3 ≤ sizeLine; decide) (fun x hx R r' => ?_) (fun D hD => ?_)
  · have hx2 : ∃ n : Nat, x = .int n ∧ n ≤ 10000 := by
      simp only [List.mem_cons, List.not_mem_nil, or_false] at hx
      rcases hx with z | z | z
      · exact ⟨a, z, by omega⟩
      · exact ⟨b, z, by omega⟩
      · exact ⟨c, z, g4⟩
    obtain ⟨v, rfl, hv⟩ := hx2
    walk_at "rd"
    refine ⟨_, rfl, ?_⟩
    rw [okI_iff.mpr (show 0 ≤ (v : Int) ∧ (v : Int) ≤ 10000 by omega)]
    exact r'
  refine ⟨D, rfl, [true, true, true], SqL.of upd_same, ?_⟩
  rw [if_neg (by decide)]
  have s1 : Same H (upd H D (.lst (List.map (fun _ => V.bl true) [V.int (a : Int), V.int (b : Int), V.int (c : Int)]))) := Same.upd hD _
  generalize upd H D (.lst (List.map (fun _ => V.bl true) [V.int (a : Int), V.int (b : Int), V.int (c : Int)])) = H1 at s1
  have ix : ∀ (k : Nat) (v : V) (R : VK), ([.int (a : Int), .int (b : Int), .int (c : Int)] : List V)[k]? = some v → R v H1 → rIxT K (.ref p) (.int (k : Int)) H1 R := fun k v R e r => ⟨p, _, _, v, rfl, rfl, SqT.of (s1 _ _ hp), atI_nat e, r⟩
  have cm : ∀ x : Nat, x ≤ 10000 → CMul (x : Int) x := fun x hx => .inl ⟨by omega, by omega⟩
  refine ix 0 _ _ rfl ⟨_, rfl, ?_⟩
  rw [if_pos (by omega)]
  refine ix 1 _ _ rfl ⟨_, rfl, _, rfl, ?_⟩
  rw [if_pos (by omega)]
  refine ix 2 _ _ rfl ⟨_, rfl, _, rfl, ?_⟩
  rw [if_neg (fun z => z (by omega))]
  refine ix 0 _ _ rfl (ix 0 _ _ rfl ⟨_, rfl, _, rfl, cm a (by omega), ix 1 _ _ rfl (ix 1 _ _ rfl ⟨_, rfl, _, rfl, cm b (by omega), ix 2 _ _ rfl (ix 2 _ _ rfl ⟨_, rfl, _, rfl, cm c g4, ?_⟩)⟩)⟩)
  rw [decide_eq_true (show (a : Int) * a + (b : Int) * b = (c : Int) * c by exact_mod_cast g5)]
  exact q _ s1
end
end Sq

namespace Sq
open PySem L2
local macro_rules | `(tactic| walk_at "rd") => `(tactic| simp only [L2.start, List.map_cons, List.map_nil, List.length_cons, List.length_nil, List.replicate, List.cons_append, List.nil_append, List.append_nil, Nat.sub_self, Nat.reduceAdd, Nat.reduceSub,
  tSeq, tRet, tRetN, tNext, tIfS, tDrop, tAsg, tPar, gName, gNil, gCons, gTup, tVar, tC, tOp, tUn, rI, rI0, rU, rEq, rNe, scal_ii, scal_ss, scal_bb, tTest, tB, tAnd, tOr, tNot, tAndV, tOrV, tNotV, tIf, tCB, tCons, tNil, tCall, tChain, tChain3, tLst, tTup, tDGet, tDGet2, tDIn, sDPut, tDNewK, okC, clsV, cxOf_K,
  List.getElem?_cons_zero, List.getElem?_cons_succ, Option.some.injEq, exists_eq_left', exists_eq_left, exists_eq_right, exists_and_left, and_assoc, V.int.injEq, V.bl.injEq, V.ref.injEq, V.str.injEq, List.cons.injEq, and_true, true_and, List.set_cons_zero, List.set_cons_succ,
  if_true, if_false, ↓reduceIte, Bool.false_eq_true, Bool.true_eq_false, Bool.not_true, Bool.not_false, Bool.not_eq_true', decide_eq_true_eq, decide_eq_false_iff_not])
local macro_rules | `(tactic| walk_at "rs") => `(tactic| simp only [L2.start, List.map_cons, List.map_nil, List.length_cons, List.length_nil, List.replicate, List.cons_append, List.nil_append, List.append_nil, Nat.sub_self, Nat.reduceAdd, Nat.reduceSub, cxOf_K])

set_option maxHeartbeats 1000000
def spSource : Sp := fun vs H Q _ => ∃ (p : Addr) (a b c : Nat), vs = [.ref p] ∧ H p = some (.tup [.int a, .int b, .int c]) ∧ Walk a b c ∧ ∀ (u : Addr) (m n g : Nat) (H' : Hp), Same H H' → g = Nat.gcd a b → WR ((c / g + oddOf (a / g) (b / g)) / 2) m → WR ((c / g - oddOf (a / g) (b / g)) / 2) n →
  H' u = some (.tup [.int m, .int n, .int g]) → Q (.ref u) H'
section
variable {P : Program} {w : World} {K : PySem.W.Frag} {mg : Str → Option Value} {base : Heap} {t : Adr}
theorem ok_source (T : Txt K mg t) (K_is_walk : Known P w K mg base 3 "is_walk" ["value"] spIsWalk) (K_common_divisor : Known P w K mg base 1 "common_divisor" ["one", "other"] spGcd) (K_whole_root : Known P w K mg base 1 "whole_root" ["number"] spWRoot) : Known P w K mg base 4 "source" ["walk"] spSource := by
  have S : FnScope ["walk", "shared", "first", "second", "third", "odd"] ["walk"] (defScope s_source) := ⟨rfl, rfl, rfl, by decide +kernel, rfl, by decide +kernel, by decide +kernel⟩
  refine Known.of T.h_source S (fun vs H Q E h => ?_) (fun f cdv A outer s H vs Q E hr h => ?_)
  · obtain ⟨p, a, b, c, rfl, _⟩ := h
    rfl
  obtain ⟨p, a, b, c, rfl, hp, hw, q⟩ := h
  refine ⟨_, (pss_cons (ps_if (pt_not (pt_val (pe_fn K_is_walk hr rfl (pa_cons (pv 0) pa_nil)))) (pss_one ps_never)
      pss_nil)
      (pss_cons (ps_set (i := 1) S.nd rfl (by first | exact Or.inl rfl | exact Or.inr rfl) (pe_fn K_common_divisor (hr.mono (by decide : 1 ≤ 3)) rfl (pa_cons (pe_ix ix_tup (pv 0) pe_int (fun _ _ => rfl)) (pa_cons (pe_ix ix_tup (pv 0) pe_int (fun _ _ => rfl)) pa_nil))))
      (pss_cons (ps_set (i := 2) S.nd rfl (by first | exact Or.inl rfl | exact Or.inr rfl) (pe_op op_fdiv (pe_ix ix_tup (pv 0) pe_int (fun _ _ => rfl)) (pv 1)))
      (pss_cons (ps_set (i := 3) S.nd rfl (by first | exact Or.inl rfl | exact Or.inr rfl) (pe_op op_fdiv (pe_ix ix_tup (pv 0) pe_int (fun _ _ => rfl)) (pv 1)))
      (pss_cons (ps_set (i := 4) S.nd rfl (by first | exact Or.inl rfl | exact Or.inr rfl) (pe_op op_fdiv (pe_ix ix_tup (pv 0) pe_int (fun _ _ => rfl)) (pv 1)))
      (pss_cons (ps_set (i := 5) S.nd rfl (by first | exact Or.inl rfl | exact Or.inr rfl) (pe_ifExp (pt_cmpR op_eq (pe_op op_mod (pv 2) pe_int) pe_int (nomark _)) (pv 2) (pv 3)))
      (pss_one (ps_ret (pe_tup (pa_cons (pe_fn K_whole_root (hr.mono (by decide : 1 ≤ 3)) rfl (pa_cons (pe_op op_fdiv (pe_op op_add (pv 4) (pv 5)) pe_int) pa_nil)) (pa_cons (pe_fn K_whole_root (hr.mono (by decide : 1 ≤ 3)) rfl (pa_cons (pe_op op_fdiv (pe_op op_sub (pv 4) (pv 5)) pe_int) pa_nil)) (pa_cons (pv 1) pa_nil)))))))))))), ?_⟩
  walk_at "rd"
  refine ⟨p, a, b, c, rfl, hp, hw, fun H1 s1 => ⟨true, rfl, ?_⟩⟩
  rw [if_neg (by decide)]
  obtain ⟨g1, g2, g3, g4, g5⟩ := hw
  have hp1 := s1 _ _ hp
  have ix : ∀ (k : Nat) (v : V) (R : VK), ([.int (a : Int), .int (b : Int), .int (c : Int)] : List V)[k]? = some v → R v H1 → rIxT K (.ref p) (.int (k : Int)) H1 R := fun k v R e r => ⟨p, _, _, v, rfl, rfl, SqT.of hp1, atI_nat e, r⟩
  have gp : 0 < Nat.gcd a b := Nat.gcd_pos_of_pos_left b g1
  have gl : Nat.gcd a b ≤ a := Nat.gcd_le_left b g1
  refine ix 0 _ _ rfl (ix 1 _ _ rfl ⟨a, b, rfl, ?_⟩)
  obtain ⟨g, hg⟩ : ∃ g, Nat.gcd a b = g := ⟨_, rfl⟩
  rw [hg] at gp gl ⊢
  have cd : ∀ x : Int, CDiv x (g : Int) := fun x => ⟨by omega, by omega⟩
  refine ix 0 _ _ rfl ⟨_, rfl, _, rfl, cd _, ix 1 _ _ rfl ⟨_, rfl, _, rfl, cd _, ix 2 _ _ rfl ⟨_, rfl, _, rfl, cd _, by decide, ?_⟩⟩⟩
  rw [show (a : Int) / (g : Int) = ((a / g : Nat) : Int) from rfl, show (b : Int) / (g : Int) = ((b / g : Nat) : Int) from rfl, show (c : Int) / (g : Int) = ((c / g : Nat) : Int) from rfl]
  have cg : c / g ≤ 10000 := Nat.le_trans (Nat.div_le_self c g) g4
  by_cases h : a / g % 2 = 1
  · rw [if_pos (by omega)]
    have le : a / g ≤ c / g := Nat.div_le_div_right (by omega)
    have eo : oddOf (a / g) (b / g) = a / g := by
      unfold oddOf
      rw [if_pos h]
    have e1 : (((c / g : Nat) : Int) + ((a / g : Nat) : Int)) / 2 = (((c / g + a / g) / 2 : Nat) : Int) := by omega
    have e2 : (((c / g : Nat) : Int) - ((a / g : Nat) : Int)) / 2 = (((c / g - a / g) / 2 : Nat) : Int) := by omega
    rw [e1, e2]
    refine ⟨⟨by decide, by decide⟩, _, rfl, by omega, fun m h1 h2 => ⟨⟨by decide, by decide⟩, _, rfl, by omega, fun n h3 h4 => ⟨by show 3 ≤ sizeLine; decide, fun u hu => ?_⟩⟩⟩
    exact q u m n g _ (s1.trans (Same.upd hu _)) hg.symm (by rw [eo]; exact ⟨h1, h2⟩) (by rw [eo]; exact ⟨h3, h4⟩) upd_same
  · rw [if_neg (by omega)]
    have le : b / g ≤ c / g := Nat.div_le_div_right (by omega)
    have eo : oddOf (a / g) (b / g) = b / g := by
      unfold oddOf
      rw [if_neg h]
    have e1 : (((c / g : Nat) : Int) + ((b / g : Nat) : Int)) / 2 = (((c / g + b / g) / 2 : Nat) : Int) := by omega
    have e2 : (((c / g : Nat) : Int) - ((b / g : Nat) : Int)) / 2 = (((c / g - b / g) / 2 : Nat) : Int) := by omega
    rw [e1, e2]
    refine ⟨⟨by decide, by decide⟩, _, rfl, by omega, fun m h1 h2 => ⟨⟨by decide, by decide⟩, _, rfl, by omega, fun n h3 h4 => ⟨by show 3 ≤ sizeLine; decide, fun u hu => ?_⟩⟩⟩
    exact q u m n g _ (s1.trans (Same.upd hu _)) hg.symm (by rw [eo]; exact ⟨h1, h2⟩) (by rw [eo]; exact ⟨h3, h4⟩) upd_same
end
end Sq

namespace Sq
open PySem L2
local macro_rules | `(tactic| walk_at "rd") => `(tactic| simp only [L2.start, List.map_cons, List.map_nil, List.length_cons, List.length_nil, List.replicate, List.cons_append, List.nil_append, List.append_nil, Nat.sub_self, Nat.reduceAdd, Nat.reduceSub,
  tSeq, tRet, tRetN, tNext, tIfS, tDrop, tAsg, tPar, gName, gNil, gCons, gTup, tVar, tC, tOp, tUn, rI, rI0, rU, rEq, rNe, scal_ii, scal_ss, scal_bb, tTest, tB, tAnd, tOr, tNot, tAndV, tOrV, tNotV, tIf, tCB, tCons, tNil, tCall, tChain, tChain3, tLst, tTup, tDGet, tDGet2, tDIn, sDPut, tDNewK, okC, clsV, cxOf_K,
  List.getElem?_cons_zero, List.getElem?_cons_succ, Option.some.injEq, exists_eq_left', exists_eq_left, exists_eq_right, exists_and_left, and_assoc, V.int.injEq, V.bl.injEq, V.ref.injEq, V.str.injEq, List.cons.injEq, and_true, true_and, List.set_cons_zero, List.set_cons_succ,
  if_true, if_false, ↓reduceIte, Bool.false_eq_true, Bool.true_eq_false, Bool.not_true, Bool.not_false, Bool.not_eq_true', decide_eq_true_eq, decide_eq_false_iff_not])
local macro_rules | `(tactic| walk_at "rs") => `(tactic| simp only [L2.start, List.map_cons, List.map_nil, List.length_cons, List.length_nil, List.replicate, List.cons_append, List.nil_append, List.append_nil, Nat.sub_self, Nat.reduceAdd, Nat.reduceSub, cxOf_K])

set_option maxHeartbeats 1000000
theorem wOf_eq {c : Nat} (hc : c ≤ 300) (h0 : 0 < c) {ps : List (Nat × Nat)} (h : IsPairs (c * c) ps) : wOf c ps = ((wcTo c c).map fun p => (c, p.1, p.2)).map rot := by
  unfold wOf
  rw [wc_pairs hc h0 h, List.map_map]
  rfl
/-- the walks, by the list that is reckoned -/
theorem IsW.eq : ∀ {M : Nat} {ts : List (Nat × Nat × Nat)}, IsW M ts → M ≤ 300 → ts = (WT M).map rot
  | _, _, .nil, _ => rfl
  | _, _, .step (M := M) h p, hM => by
    have e : WT (M + 1) = WT M ++ (wcTo (M + 1) (M + 1)).map fun p => (M + 1, p.1, p.2) := rfl
    rw [h.eq (by omega), wOf_eq hM (by omega) p, e, List.map_append]
theorem hit_iff {c a : Nat} (hc : c ≤ 300) (ha : a ≤ c) : hit c a = true ↔ ∃ r, 0 < a ∧ a < r ∧ a * a + r * r = c * c := by
  have hcc : c * c ≤ 300 * 300 := Nat.mul_le_mul hc hc
  have haa : a * a ≤ c * c := Nat.mul_le_mul ha ha
  unfold hit
  simp only [Bool.and_eq_true, decide_eq_true_eq]
  constructor
  · rintro ⟨_, ⟨h1, h2⟩, h3⟩
    exact ⟨_, h1, h2, by omega⟩
  · rintro ⟨r, h1, h2, h3⟩
    have er : rt (c * c - a * a) = r := rt_sq (by omega) (by omega)
    refine ⟨?_, ⟨h1, by rw [er]; exact h2⟩, by rw [er]; omega⟩
    rw [show c * c - a * a = r * r by omega]
    exact pre_sq r
def spDue (lo hi : Nat) : Sp := fun vs H Q _ => ∃ M : Nat, vs = [.int M] ∧ lo ≤ M ∧ M ≤ hi ∧ ∀ (l : Addr) (xs : List V) (H' : Hp), Same H H' → H l = none → H' l = some (.lst xs) → P3 H' xs (WT M) → Q (.ref l) H'
section
variable {P : Program} {w : World} {K : PySem.W.Frag} {mg : Str → Option Value} {base : Heap} {t : Adr}
theorem ok_law_tried (T : Txt K mg t) : Known P w K mg base 1 "_law_tried" ["_law_most"] (spDue 0 60) := by
  have S : FnScope ["_law_most", "_law_roots", "_law_side", "_law_found", "_law_third", "_law_one", "_law_other"] ["_law_most"] (defScope s__law_tried) := ⟨rfl, rfl, rfl, by decide +kernel, rfl, by decide +kernel, by decide +kernel⟩
  refine Known.of T.h__law_tried S (fun vs H Q E h => ?_) (fun f cdv A outer s H vs Q E hr h => ?_)
  · obtain ⟨M, rfl, _⟩ := h
    rfl
  obtain ⟨M, rfl, _, hM, q⟩ := h
  refine ⟨_, (pss_cons (ps_set (i := 1) S.nd rfl (by first | exact Or.inl rfl | exact Or.inr rfl) pe_dnewK)
      (pss_cons (ps_for PassesOwn.never rfl (pi_range1 rfl T.z_range (pa_cons (pe_op op_add (pv 0) pe_int) pa_nil)) (pg_name (i := 2) S.nd rfl (by first | exact Or.inl rfl | exact Or.inr rfl)) (pss_one (ps_dput (hu_of hr) (pv 1) (pe_op op_mul (pv 2) (pv 2)) (pv 2) rfl)))
      (pss_cons (ps_set (i := 3) S.nd rfl (by first | exact Or.inl rfl | exact Or.inr rfl) (pe_lst pa_nil))
      (pss_cons (ps_for PassesOwn.never rfl (pi_range2 rfl T.z_range (pa_cons pe_int (pa_cons (pe_op op_add (pv 0) pe_int) pa_nil))) (pg_name (i := 4) S.nd rfl (by first | exact Or.inl rfl | exact Or.inr rfl)) (pss_one (ps_for PassesOwn.never rfl (pi_range2 rfl T.z_range (pa_cons pe_int (pa_cons (pv 4) pa_nil))) (pg_name (i := 5) S.nd rfl (by first | exact Or.inl rfl | exact Or.inr rfl)) (pss_cons (ps_set (i := 6) S.nd rfl (by first | exact Or.inl rfl | exact Or.inr rfl) (pe_dget2 (hu_of hr) (pv 1) (pe_op op_sub (pe_op op_mul (pv 4) (pv 4)) (pe_op op_mul (pv 5) (pv 5))) pe_int ⟨rfl, rfl, rfl, rfl⟩))
      (pss_one (ps_if (pt_cmpR op_lt (pv 5) (pv 6) (nomark _)) (pss_one (ps_expr (pe_bm PySem.F.plainAttrs_list PySem.F.slot_list_append PySem.F.type_list_append mt_append (pv 3) (pa_cons (pe_tup (pa_cons (pv 4) (pa_cons (pv 5) (pa_cons (pv 6) pa_nil)))) pa_nil))))
      pss_nil))))))
      (pss_one (ps_ret (pv 3))))))), ?_⟩
  walk_at "rd"
  intro d hd
  refine ⟨_, rfl, _, _, rfl, rfl, (M : Int) + 1, rfl, by omega, by omega, ?_⟩
  have eM : ((M : Int) + 1).toNat = M + 1 := by omega
  rw [eM]
  refine for_range (n := M + 1) (fun i σ H1 => ∃ (kvs : List (Key × V)) (y : Option V), σ = [some (.int M), some (.ref d), y, none, none, none, none] ∧ Same H H1 ∧ H1 d = some (.dK kvs) ∧ kvs.length ≤ i ∧
      (∀ r : Nat, r < i → valV kvs (.inl ((r : Int) * r)) = some (.int r)) ∧ ∀ (k : Int) (v : V), valV kvs (.inl k) = some v → ∃ r : Nat, r < i ∧ k = (r : Int) * r ∧ v = .int r)
    ⟨[], none, rfl, Same.upd hd _, upd_same, Nat.le_refl _, fun r hr => by omega, fun k v h => by rw [valV_nil] at h; cases h⟩ ?_ ?_
  · rintro i σ H1 hi ⟨kvs, y, rfl, s1, hD, hlen, hv1, hv2⟩
    walk_at "rd"
    simp only [Int.zero_add]
    refine ⟨.inl ⟨by omega, by omega⟩, _, .inl ⟨kvs, .inl ((i : Int) * i), hD, rfl, Nat.lt_of_le_of_lt hlen (small1000 (by omega)), rfl⟩, fun b o e => ?_, putK kvs (.inl ((i : Int) * i)) (.int i), upd_same, Nat.le_trans (length_putK _ _ _) (by omega), fun r hr => ?_, fun k v h => ?_⟩
    · rw [upd_ne (ne_of_none e hd)]
      exact s1 b o e
    · rw [valV_put]
      by_cases z : r = i
      · rw [z, if_pos rfl]
      · rw [if_neg (fun y => z (sq_inj (by injection y with y; exact_mod_cast y)))]
        exact hv1 r (by omega)
    · rw [valV_put] at h
      split at h
      · rename_i z
        injection z with z
        cases h
        exact ⟨i, by omega, z, rfl⟩
      · obtain ⟨r, h1, h2⟩ := hv2 k v h
        exact ⟨r, by omega, h2⟩
  rintro σ H1 ⟨kvs, y, rfl, s1, hD, hlen, hv1, hv2⟩
  walk_at "rd"
  refine ⟨by show 0 ≤ sizeLine; decide, fun l hl => ?_⟩
  have hdl : d ≠ l := ne_of_none hD hl
  have hl0 : H l = none := by
    cases e : H l with
    | none => rfl
    | some o => rw [s1 _ _ e] at hl; cases hl
  refine ⟨_, rfl, _, _, rfl, rfl, 1, (M : Int) + 1, rfl, ⟨by decide, by decide, by omega, by omega⟩, ?_⟩
  have eM2 : ((M : Int) + 1 - 1).toNat = M := by omega
  rw [eM2]
  refine for_range (n := M) (fun i σ H2 => ∃ (xs : List V) (y1 y2 y3 y4 : Option V), σ = [some (.int M), some (.ref d), y1, some (.ref l), y2, y3, y4] ∧ Same H H2 ∧ H2 d = some (.dK kvs) ∧ H2 l = some (.lst xs) ∧ P3 H2 xs (WT i))
    ⟨[], _, _, _, _, rfl, s1.trans (Same.upd hl _), by rw [upd_ne hdl]; exact hD, upd_same, trivial⟩ ?_ ?_
  · rintro i σ H2 hi ⟨xs, y1, y2, y3, y4, rfl, s2, hD2, hL, hP⟩
    walk_at "rd"
    have e2 : (1 + (i : Int)) = ((i + 1 : Nat) : Int) := by omega
    rw [e2]
    obtain ⟨c, hc⟩ : ∃ c : Nat, i + 1 = c := ⟨_, rfl⟩
    rw [hc]
    refine ⟨_, rfl, 1, (c : Int), rfl, ⟨by decide, by decide, by omega, by omega⟩, ?_⟩
    have eC : ((c : Int) - 1).toNat = i := by omega
    rw [eC]
    have eW : WT c = WT i ++ (wcTo c c).map fun p => (c, p.1, p.2) := by rw [← hc]; rfl
    refine for_range (n := i) (fun j σ H3 => ∃ (xs : List V) (y1 y3 y4 : Option V), σ = [some (.int M), some (.ref d), y1, some (.ref l), some (.int (c : Int)), y3, y4] ∧ Same H H3 ∧ H3 d = some (.dK kvs) ∧ H3 l = some (.lst xs) ∧ P3 H3 xs (WT i ++ (wcTo c (j + 1)).map fun p => (c, p.1, p.2)))
      ⟨xs, _, _, _, rfl, s2, hD2, hL, ?_⟩ ?_ ?_
    · show P3 H2 xs (WT i ++ List.map (fun p : Nat × Nat => (c, p.1, p.2)) ([] ++ if hit c 0 = true then [(0, rt (c * c - 0 * 0))] else []))
      have h0 : hit c 0 = false := by unfold hit; simp
      rw [h0]
      simpa using hP
    · rintro j σ H3 hj ⟨xs3, y1, y3, y4, rfl, s3, hD3, hL3, hP3⟩
      walk_at "rd"
      have e3 : (1 + (j : Int)) = ((j + 1 : Nat) : Int) := by omega
      rw [e3]
      obtain ⟨a, ha⟩ : ∃ a : Nat, j + 1 = a := ⟨_, rfl⟩
      rw [ha] at hP3 ⊢
      have hc3 : c ≤ 60 := by omega
      have hcc : c * c ≤ 60 * 60 := Nat.mul_le_mul hc3 hc3
      have hac : a < c := by omega
      have haa : a * a < c * c := Nat.mul_self_lt_mul_self hac
      have cm : ∀ x : Nat, x ≤ 60 → CMul (x : Int) x := fun x hx => .inl ⟨by omega, by omega⟩
      have eS : wcTo c (a + 1) = wcTo c a ++ (if hit c a = true then [(a, rt (c * c - a * a))] else []) := rfl
      refine ⟨.inl ⟨kvs, .inl hD3⟩, cm c hc3, cm a (by omega), _, DGet.k (k := .inl ((c : Int) * c - (a : Int) * a)) hD3, ?_⟩
      have no : hit c a = false → Same H H3 ∧ H3 d = some (.dK kvs) ∧ ∃ x, H3 l = some (.lst x) ∧ P3 H3 x (WT i ++ List.map (fun p => (c, p.1, p.2)) (wcTo c (a + 1))) := fun hh => by
        rw [eS, hh]
        exact ⟨s3, hD3, xs3, hL3, by simpa using hP3⟩
      cases hv : valV kvs (Sum.inl ((c : Int) * c - (a : Int) * a)) with
      | none =>
        refine ⟨0, rfl, ?_⟩
        rw [if_neg (by omega)]
        refine no ?_
        cases hh : hit c a with
        | false => rfl
        | true =>
          obtain ⟨r, r1, r2, r3⟩ := (hit_iff (by omega) (by omega)).mp hh
          have a1 := Nat.mul_le_mul r1 r1
          have rc : r < c := sq_lt_of (by omega)
          have e4 : (c : Int) * c - (a : Int) * a = (r : Int) * r := by
            have : (a : Int) * a + (r : Int) * r = (c : Int) * c := by exact_mod_cast r3
            omega
          rw [e4, hv1 r (by omega)] at hv
          cases hv
      | some v =>
        obtain ⟨r, hr, er, rfl⟩ := hv2 _ _ hv
        have er' : a * a + r * r = c * c := by
          have : (a : Int) * a + (r : Int) * r = (c : Int) * c := by omega
          exact_mod_cast this
        refine ⟨r, rfl, ?_⟩
        by_cases hlt : a < r
        · have hh : hit c a = true := (hit_iff (by omega) (by omega)).mpr ⟨r, by omega, hlt, er'⟩
          have ert : rt (c * c - a * a) = r := rt_sq (by omega) (by omega)
          rw [if_pos (by omega), eS, if_pos hh, ert]
          refine ⟨_, rfl, .inl ⟨rfl, _, SqL.of hL3⟩, ?_⟩
          walk_at "rd"
          refine ⟨by show 3 ≤ sizeLine; decide, fun u hu => ?_⟩
          dsimp only [Option.getD_some]
          have hlen3 : xs3.length ≤ 1000 := by
            rw [hP3.length, List.length_append, List.length_map]
            have := WT_len (show i ≤ 300 by omega)
            have := wcTo_len (c := c) a
            omega
          have t1 := Same.upd hu (.tup [V.int (c : Int), V.int (a : Int), V.int (r : Int)])
          have hu1 : upd H3 u (.tup [V.int (c : Int), V.int (a : Int), V.int (r : Int)]) u = some (.tup [V.int (c : Int), V.int (a : Int), V.int (r : Int)]) := upd_same
          generalize upd H3 u (.tup [V.int (c : Int), V.int (a : Int), V.int (r : Int)]) = H4 at t1 hu1
          have hL4 := t1 _ _ hL3
          refine ⟨l, xs3, _, rfl, rfl, hL4, small1000 hlen3, fun b o e => ?_, ?_, xs3 ++ [.ref u], upd_same, ?_⟩
          · rw [upd_ne (ne_of_none e hl0)]
            exact t1 _ _ (s3 _ _ e)
          · rw [upd_ne hdl]
            exact t1 _ _ hD3
          · rw [List.map_append, ← List.append_assoc]
            exact ((hP3.same t1).append (p := (c, a, r)) hu1).upd hL4
        · rw [if_neg (by omega)]
          refine no ?_
          cases hh : hit c a with
          | false => rfl
          | true =>
            obtain ⟨r', r1, r2, r3⟩ := (hit_iff (by omega) (by omega)).mp hh
            have : r' = r := sq_inj (by omega)
            omega
    · rintro σ H3 ⟨xs3, y1, y3, y4, rfl, s3, hD3, hL3, hP3⟩
      rw [hc, ← eW] at hP3
      exact ⟨xs3, _, _, _, _, rfl, s3, hD3, hL3, hP3⟩
  · rintro σ H2 ⟨xs, y1, y2, y3, y4, rfl, s2, hD2, hL, hP⟩
    walk_at "rd"
    exact q l xs H2 s2 hl0 hL hP
end
end Sq

namespace Sq
open PySem L2
local macro_rules | `(tactic| walk_at "rd") => `(tactic| simp only [L2.start, List.map_cons, List.map_nil, List.length_cons, List.length_nil, List.replicate, List.cons_append, List.nil_append, List.append_nil, Nat.sub_self, Nat.reduceAdd, Nat.reduceSub,
  tSeq, tRet, tRetN, tNext, tIfS, tDrop, tAsg, tPar, gName, gNil, gCons, gTup, tVar, tC, tOp, tUn, rI, rI0, rU, rEq, rNe, scal_ii, scal_ss, scal_bb, tTest, tB, tAnd, tOr, tNot, tAndV, tOrV, tNotV, tIf, tCB, tCons, tNil, tCall, tChain, tChain3, tLst, tTup, tDGet, tDGet2, tDIn, sDPut, tDNewK, okC, clsV, cxOf_K,
  List.getElem?_cons_zero, List.getElem?_cons_succ, Option.some.injEq, exists_eq_left', exists_eq_left, exists_eq_right, exists_and_left, and_assoc, V.int.injEq, V.bl.injEq, V.ref.injEq, V.str.injEq, List.cons.injEq, and_true, true_and, List.set_cons_zero, List.set_cons_succ,
  if_true, if_false, ↓reduceIte, Bool.false_eq_true, Bool.true_eq_false, Bool.not_true, Bool.not_false, Bool.not_eq_true', decide_eq_true_eq, decide_eq_false_iff_not])
local macro_rules | `(tactic| walk_at "rs") => `(tactic| simp only [L2.start, List.map_cons, List.map_nil, List.length_cons, List.length_nil, List.replicate, List.cons_append, List.nil_append, List.append_nil, Nat.sub_self, Nat.reduceAdd, Nat.reduceSub, cxOf_K])

set_option maxHeartbeats 1000000
theorem WT_two : ((List.range 301).all fun M => decide (M < 61) || decide (2 ≤ (L300.filter (fun t => decide (t.1 ≤ M))).length)) = true := by decide +kernel
theorem src_facts {M : Nat} (h1 : 61 ≤ M) (hM : M ≤ 300) : 2 ≤ (srcAll M).length ∧ (srcAll M).length ≤ 1000 ∧ (∀ t ∈ srcAll M, t.1 < 1000 ∧ t.2.1 < 1000 ∧ t.2.2 < 1000) ∧ ((srcAll M).map code).Nodup := by
  have p := WT_perm hM
  have e : WT M = L300.filter (fun t => decide (t.1 ≤ M)) := by rw [← WT_filter M 300 hM, WT300]
  have h2 := List.all_eq_true.mp WT_two M (List.mem_range.mpr (by omega))
  simp only [Bool.or_eq_true, decide_eq_true_eq] at h2
  have l := WT_len hM
  refine ⟨?_, by rw [p.length_eq]; omega, fun t ht => L300_lt (WT_in hM (p.mem_iff.mp ht)), ?_⟩
  · rw [p.length_eq, e]
    rcases h2 with z | z
    · omega
    · exact z
  · refine (p.map code).nodup_iff.mpr ?_
    rw [List.Nodup, List.pairwise_map]
    exact (WT_srt hM).imp fun h => Nat.ne_of_lt h
theorem range_flat {α : Type} (f : Nat → List α) (i : Nat) : (List.range (i + 1)).flatMap f = (List.range i).flatMap f ++ f i := by
  rw [List.range_succ, List.flatMap_append]
  simp
section
variable {P : Program} {w : World} {K : PySem.W.Frag} {mg : Str → Option Value} {base : Heap} {t : Adr}
theorem ok_law_sources (T : Txt K mg t) (K__law_common : Known P w K mg base 1 "_law_common" ["_law_one", "_law_other"] spGcd) (K__law_made : Known P w K mg base 1 "_law_made" ["_law_m", "_law_n", "_law_k"] spMade) : Known P w K mg base 2 "_law_sources" ["_law_most"] (spDue 61 300) := by
  have S : FnScope ["_law_most", "_law_found", "_law_m", "_law_n", "_law_k"] ["_law_most"] (defScope s__law_sources) := ⟨rfl, rfl, rfl, by decide +kernel, rfl, by decide +kernel, by decide +kernel⟩
  refine Known.of T.h__law_sources S (fun vs H Q E h => ?_) (fun f cdv A outer s H vs Q E hr h => ?_)
  · obtain ⟨M, rfl, _⟩ := h
    rfl
  obtain ⟨M, rfl, hM1, hM, q⟩ := h
  refine ⟨_, (pss_cons (ps_set (i := 1) S.nd rfl (by first | exact Or.inl rfl | exact Or.inr rfl) (pe_lst pa_nil))
      (pss_cons (ps_for PassesOwn.never rfl (pi_range2 rfl T.z_range (pa_cons pe_int (pa_cons pe_int pa_nil))) (pg_name (i := 2) S.nd rfl (by first | exact Or.inl rfl | exact Or.inr rfl)) (pss_one (ps_for PassesOwn.never rfl (pi_range2 rfl T.z_range (pa_cons pe_int (pa_cons (pv 2) pa_nil))) (pg_name (i := 3) S.nd rfl (by first | exact Or.inl rfl | exact Or.inr rfl)) (pss_one (ps_if (PW.pt (pw_and (pt_cmpR op_eq (pe_op op_mod (pe_op op_add (pv 2) (pv 3)) pe_int) pe_int (nomark _)) (pw_and1 (pt_cmpR op_eq (pe_fn K__law_common hr rfl (pa_cons (pv 2) (pa_cons (pv 3) pa_nil))) pe_int (nomark _))))) (pss_one (ps_for PassesOwn.never rfl (pi_range2 rfl T.z_range (pa_cons pe_int (pa_cons (pe_op op_add (pe_op op_fdiv (pv 0) (pe_op op_add (pe_op op_mul (pv 2) (pv 2)) (pe_op op_mul (pv 3) (pv 3)))) pe_int) pa_nil))) (pg_name (i := 4) S.nd rfl (by first | exact Or.inl rfl | exact Or.inr rfl)) (pss_one (ps_expr (pe_bm PySem.F.plainAttrs_list PySem.F.slot_list_append PySem.F.type_list_append mt_append (pv 1) (pa_cons (pe_fn K__law_made hr rfl (pa_cons (pv 2) (pa_cons (pv 3) (pa_cons (pv 4) pa_nil)))) pa_nil))))))
      pss_nil)))))
      (pss_one (ps_ret (pe_callB call_sorted_tups rfl T.z_sorted bt_sorted (pa_cons (pv 1) pa_nil)))))), ?_⟩
  walk_at "rd"
  refine ⟨by show 0 ≤ sizeLine; decide, fun l hl => ?_⟩
  refine ⟨2, 18, rfl, ⟨by decide, by decide, by decide, by decide⟩, ?_⟩
  refine for_range (n := 16) (fun i σ H1 => ∃ (xs : List V) (y2 y3 y4 : Option V), σ = [some (.int M), some (.ref l), y2, y3, y4] ∧ Same H H1 ∧ H1 l = some (.lst xs) ∧ P3 H1 xs ((List.range i).flatMap fun i => srcM M (i + 2)) ∧ xs.length ≤ i * 1020)
    ⟨[], none, none, none, rfl, Same.upd hl _, upd_same, trivial, Nat.le_refl _⟩ ?_ ?_
  · rintro i σ H1 hi ⟨xs, y2, y3, y4, rfl, s1, hL, hP, hlen⟩
    walk_at "rd"
    have e2 : (2 + (i : Int)) = ((i + 2 : Nat) : Int) := by omega
    rw [e2]
    obtain ⟨m, hm⟩ : ∃ m : Nat, i + 2 = m := ⟨_, rfl⟩
    rw [hm]
    refine ⟨_, rfl, 1, (m : Int), rfl, ⟨by decide, by decide, by omega, by omega⟩, ?_⟩
    have eC : ((m : Int) - 1).toNat = m - 1 := by omega
    rw [eC]
    refine for_range (n := m - 1) (fun j σ H2 => ∃ (xs : List V) (y3 y4 : Option V), σ = [some (.int M), some (.ref l), some (.int (m : Int)), y3, y4] ∧ Same H H2 ∧ H2 l = some (.lst xs) ∧ P3 H2 xs (((List.range i).flatMap fun i => srcM M (i + 2)) ++ (List.range j).flatMap fun j => srcN M m (j + 1)) ∧ xs.length ≤ i * 1020 + j * 60)
      ⟨xs, _, _, rfl, s1, hL, by simpa using hP, by omega⟩ ?_ ?_
    · rintro j σ H2 hj ⟨xs2, y3, y4, rfl, s2, hL2, hP2, hlen2⟩
      walk_at "rd"
      have e3 : (1 + (j : Int)) = ((j + 1 : Nat) : Int) := by omega
      rw [e3, range_flat, ← List.append_assoc]
      obtain ⟨n, hn⟩ : ∃ n : Nat, j + 1 = n := ⟨_, rfl⟩
      rw [hn]
      generalize ((List.range i).flatMap fun i => srcM M (i + 2)) ++ (List.range j).flatMap (fun j => srcN M m (j + 1)) = B at hP2 ⊢
      refine ⟨by decide, ?_⟩
      have no : ¬ ((m + n) % 2 = 1 ∧ Nat.gcd m n = 1) → Same H H2 ∧ ∃ x, H2 l = some (.lst x) ∧ P3 H2 x (B ++ srcN M m n) ∧ x.length ≤ i * 1020 + n * 60 := fun z => by
        unfold srcN
        rw [if_neg z, List.append_nil]
        exact ⟨s2, xs2, hL2, hP2, by omega⟩
      by_cases h1 : (m + n) % 2 = 1
      · rw [if_pos (by omega)]
        refine ⟨m, n, rfl, rfl, ?_⟩
        by_cases h2 : Nat.gcd m n = 1
        · rw [h2, if_pos (show V.int ((1 : Nat) : Int) = V.int 1 from rfl)]
          have hmm : m * m ≤ 17 * 17 := Nat.mul_le_mul (by omega) (by omega)
          have hm4 : 2 * 2 ≤ m * m := Nat.mul_le_mul (by omega) (by omega)
          have hnn : n * n ≤ 17 * 17 := Nat.mul_le_mul (by omega) (by omega)
          have hn1 : 1 * 1 ≤ n * n := Nat.mul_le_mul (by omega) (by omega)
          have cm : ∀ x : Nat, x ≤ 17 → CMul (x : Int) x := fun x hx => .inl ⟨by omega, by omega⟩
          obtain ⟨K0, hK⟩ : ∃ K0 : Nat, M / (m * m + n * n) = K0 := ⟨_, rfl⟩
          have hK0 : K0 ≤ 60 := by
            rw [← hK]
            exact Nat.le_trans (Nat.div_le_div hM (show 5 ≤ m * m + n * n by omega) (by decide)) (show 300 / 5 ≤ 60 by decide)
          have eD : (M : Int) / ((m : Int) * m + (n : Int) * n) = (K0 : Int) := by rw [← hK]; push_cast; rfl
          refine ⟨_, rfl, _, rfl, _, rfl, _, _, rfl, rfl, cm m (by omega), _, rfl, _, rfl, _, _, rfl, rfl, cm n (by omega), _, _, rfl, rfl, _, _, rfl, rfl, ⟨by omega, by omega⟩, _, _, rfl, rfl, 1, (M : Int) / ((m : Int) * m + (n : Int) * n) + 1, rfl, ⟨by decide, by decide, by omega, by omega⟩, ?_⟩
          rw [eD, show ((K0 : Int) + 1 - 1).toNat = K0 by omega]
          have eN : srcN M m n = (List.range K0).map fun k => made m n (k + 1) := by
            unfold srcN
            rw [if_pos ⟨h1, h2⟩, hK]
          rw [eN]
          refine for_range (n := K0) (fun k σ H3 => ∃ (xs : List V) (y4 : Option V), σ = [some (.int M), some (.ref l), some (.int (m : Int)), some (.int (n : Int)), y4] ∧ Same H H3 ∧ H3 l = some (.lst xs) ∧ P3 H3 xs (B ++ (List.range k).map fun k => made m n (k + 1)) ∧ xs.length ≤ i * 1020 + j * 60 + k)
            ⟨xs2, _, rfl, s2, hL2, by simpa using hP2, by omega⟩ ?_ ?_
          · rintro k σ H3 hk ⟨xs3, y4, rfl, s3, hL3, hP3, hlen3⟩
            walk_at "rd"
            have e4 : (1 + (k : Int)) = ((k + 1 : Nat) : Int) := by omega
            rw [e4, List.range_succ, List.map_append, ← List.append_assoc]
            refine ⟨_, rfl, .inl ⟨rfl, _, SqL.of hL3⟩, ?_⟩
            walk_at "rd"
            refine ⟨m, n, k + 1, rfl, by omega, by omega, by omega, fun u H4 t1 hu hu1 => ?_⟩
            have hL4 := t1 _ _ hL3
            have hb : i * 1020 + j * 60 + k < sizeLine := Nat.lt_of_le_of_lt (show i * 1020 + j * 60 + k ≤ 20000 by omega) (by decide)
            refine ⟨l, xs3, _, rfl, rfl, hL4, Nat.lt_of_le_of_lt hlen3 hb, fun b o e => ?_, xs3 ++ [.ref u], upd_same, ?_, ?_⟩
            · rw [upd_ne (ne_of_none e hl)]
              exact t1 _ _ (s3 _ _ e)
            · exact ((hP3.same t1).append (p := made m n (k + 1)) hu1).upd hL4
            · rw [List.length_append]
              show _ + 1 ≤ _
              omega
          · rintro σ H3 ⟨xs3, y4, rfl, s3, hL3, hP3, hlen3⟩
            exact ⟨xs3, _, _, rfl, s3, hL3, hP3, by omega⟩
        · rw [if_neg (fun z => h2 (by injection z with z; exact_mod_cast z))]
          exact no fun z => h2 z.2
      · rw [if_neg (by omega)]
        exact no fun z => h1 z.1
    · rintro σ H2 ⟨xs2, y3, y4, rfl, s2, hL2, hP2, hlen2⟩
      refine ⟨xs2, _, _, _, rfl, s2, hL2, ?_, by omega⟩
      rw [range_flat, hm]
      exact hP2
  · rintro σ H1 ⟨xs, y2, y3, y4, rfl, s1, hL, hP, hlen⟩
    walk_at "rd"
    obtain ⟨f1, f2, f3, f4⟩ := src_facts hM1 hM
    refine ⟨xs, SqL.of hL, srcAll M, hP, f1, f2, f3, f4, fun zs qs l2 hz hp hs hl2 => ?_⟩
    have eq := sorted_src hM hp hs
    subst eq
    have hl0 : H l2 = none := by
      cases e : H l2 with
      | none => rfl
      | some o => rw [s1 _ _ e] at hl2; cases hl2
    exact q l2 zs _ (s1.trans (Same.upd hl2 _)) hl0 upd_same (hz.same (Same.upd hl2 _))
end
end Sq

namespace Sq
open PySem L2
local macro_rules | `(tactic| walk_at "rd") => `(tactic| simp only [L2.start, List.map_cons, List.map_nil, List.length_cons, List.length_nil, List.replicate, List.cons_append, List.nil_append, List.append_nil, Nat.sub_self, Nat.reduceAdd, Nat.reduceSub,
  tSeq, tRet, tRetN, tNext, tIfS, tDrop, tAsg, tPar, gName, gNil, gCons, gTup, tVar, tC, tOp, tUn, rI, rI0, rU, rEq, rNe, scal_ii, scal_ss, scal_bb, tTest, tB, tAnd, tOr, tNot, tAndV, tOrV, tNotV, tIf, tCB, tCons, tNil, tCall, tChain, tChain3, tLst, tTup, tDGet, tDGet2, tDIn, sDPut, tDNewK, okC, clsV, cxOf_K,
  List.getElem?_cons_zero, List.getElem?_cons_succ, Option.some.injEq, exists_eq_left', exists_eq_left, exists_eq_right, exists_and_left, and_assoc, V.int.injEq, V.bl.injEq, V.ref.injEq, V.str.injEq, List.cons.injEq, and_true, true_and, List.set_cons_zero, List.set_cons_succ,
  if_true, if_false, ↓reduceIte, Bool.false_eq_true, Bool.true_eq_false, Bool.not_true, Bool.not_false, Bool.not_eq_true', decide_eq_true_eq, decide_eq_false_iff_not])
local macro_rules | `(tactic| walk_at "rs") => `(tactic| simp only [L2.start, List.map_cons, List.map_nil, List.length_cons, List.length_nil, List.replicate, List.cons_append, List.nil_append, List.append_nil, Nat.sub_self, Nat.reduceAdd, Nat.reduceSub, cxOf_K])

set_option maxHeartbeats 2000000
def spLaw (K : PySem.W.Frag) : Sp := fun vs H Q _ => ∃ (a : Addr) (ns : List Int), vs = [.ref a] ∧ SqL K H a (ns.map V.int) ∧ ns.length ≤ 63 ∧ ∀ H', Q (.bl true) H'
theorem P3.get {H : Hp} : ∀ {xs : List V} {ps : List (Nat × Nat × Nat)} {i : Nat} {v : V}, P3 H xs ps → xs[i]? = some v → ∃ p a, ps[i]? = some p ∧ v = .ref a ∧ H a = some (.tup [.int (p.1 : Int), .int (p.2.1 : Int), .int (p.2.2 : Int)])
  | [], [], _, _, _, h => by simp at h
  | _ :: _, p :: _, 0, v, ⟨⟨a, e, h⟩, _⟩, z => by
    simp at z
    subst z
    exact ⟨p, a, by simp, e, h⟩
  | _ :: _, _ :: _, i + 1, v, ⟨_, r⟩, z => by
    obtain ⟨p, a, h1, h2⟩ := P3.get (i := i) r (by simpa using z)
    exact ⟨p, a, by simpa using h1, h2⟩
def tripsD (ps : List (Nat × Nat × Nat)) : List PyData := ps.map fun p => .tuple [.int (p.1 : Int), .int (p.2.1 : Int), .int (p.2.2 : Int)]
theorem P3.data {K : PySem.W.Frag} {H : Hp} : ∀ {xs : List V} {ps : List (Nat × Nat × Nat)}, P3 H xs ps → Dts K H xs (tripsD ps)
  | [], [], _ => .nil
  | _ :: _, _ :: _, ⟨⟨a, e, h⟩, r⟩ => by
    subst e
    exact .cons (.tup (SqT.of h) (.cons (.int _) (.cons (.int _) (.cons (.int _) .nil)))) (P3.data r)
theorem tripsD_lay : ∀ ps : List (Nat × Nat × Nat), PyData.canLayAll0 (tripsD ps) = true
  | [] => by simp [tripsD, PyData.canLayAll0]
  | p :: ps => by
    have := tripsD_lay ps
    unfold tripsD at this ⊢
    simp [PyData.canLayAll0, PyData.canLay0, this]
theorem tripsD_depth : ∀ ps : List (Nat × Nat × Nat), PyData.depthAll (tripsD ps) ≤ 5
  | [] => by simp [tripsD, PyData.depthAll]
  | p :: ps => by
    have := tripsD_depth ps
    unfold tripsD at this ⊢
    simp [PyData.depthAll, PyData.depth]
    omega
theorem tripsD_shaped (ps : List (Nat × Nat × Nat)) : SeqAt.shaped (.list (tripsD ps)) = true := by
  have h1 := tripsD_lay ps
  have h2 := tripsD_depth ps
  simp [SeqAt.shaped, PyData.canLay0, PyData.depth, h1]
  omega
theorem tripsD_eqv (ps : List (Nat × Nat × Nat)) : PyData.eqv (.list (tripsD ps)) (.list (tripsD ps)) = true := by
  have h : ∀ ps : List (Nat × Nat × Nat), PyData.eqvAll (tripsD ps) (tripsD ps) = true := fun ps => by
    induction ps with
    | nil => simp [tripsD, PyData.eqvAll]
    | cons p ps ih =>
      unfold tripsD at ih ⊢
      simp [PyData.eqvAll, PyData.eqv, ih]
  simp only [PyData.eqv]
  exact h ps
/-- the list of triples, each turned -/
theorem comp_rot {K : PySem.W.Frag} {a : Addr} {xs : List V} {ts : List (Nat × Nat × Nat)} {H : Hp} {Q : VK} {v0 v1 v2 : Option V} (hl : H a = some (.lst xs)) (hP : P3 H xs ts) (hz : ts.length ≤ 1000)
    (hq : ∀ (D : Addr) (zs : List V) (H' : Hp), Same H H' → H D = none → H' D = some (.lst zs) → P3 H' zs (ts.map rot) → Q (.ref D) H') :
    ∃ W : Nat → Nat → List V → St → Hp → Prop, (∃ m, W 0 m [] [v0, v1, v2] H) ∧ CompW (Itl K a) (gTup K 3 (gCons (gName 0) (gCons (gName 1) (gCons (gName 2) gNil)))) tAll (tTup (tCons (tVar 1) (tCons (tVar 2) (tCons (tVar 0) tNil)))) Q W := by
  have hxl := hP.length
  refine ⟨fun i m acc σ H' => m = xs.length - i ∧ i ≤ xs.length ∧ Same H H' ∧ P3 H' acc ((ts.take i).map rot) ∧ ∃ u0 u1 u2, σ = [u0, u1, u2], ⟨xs.length, rfl, Nat.zero_le _, Same.refl _, trivial, v0, v1, v2, rfl⟩, ?_⟩
  rintro i m acc σ H' ⟨rfl, hi, s1, hA, u0, u1, u2, rfl⟩
  have hal := hA.length
  rw [List.length_map, List.length_take] at hal
  have hl' := s1 _ _ hl
  by_cases hlt : i < xs.length
  · refine .inr ⟨⟨xs, xs[i], SqL.of hl', by simp [hlt]⟩, Nat.lt_of_le_of_lt (show acc.length ≤ 1000 by omega) (by decide), fun x H2 y => ?_⟩
    obtain ⟨e, y⟩ := y
    subst e
    have hx : xs[i]? = some x := y xs (SqL.of hl')
    obtain ⟨p, b, hpi, rfl, hb⟩ := (hP.same s1).get hx
    have hlt2 : i < ts.length := (List.getElem?_eq_some_iff.mp hpi).1
    have ep : ts[i] = p := by
      rw [List.getElem?_eq_getElem hlt2] at hpi
      exact Option.some.inj hpi
    walk_at "rd"
    refine ⟨_, SqT.of hb, rfl, _, _, rfl, _, _, rfl, _, _, rfl, rfl, ?_⟩
    simp only [tAll]
    rw [if_pos trivial]
    refine ⟨by show 3 ≤ sizeLine; decide, fun u hu => ⟨_, by omega, rfl, hlt, s1.trans (Same.upd hu _), ?_, _, rfl⟩⟩
    rw [List.take_succ_eq_append_getElem hlt2, List.map_append, ep]
    exact P3.append (p := rot p) upd_same (hA.same (Same.upd hu _))
  · have e : i = xs.length := by omega
    subst e
    refine .inl ⟨⟨xs, SqL.of hl', Nat.le_refl _⟩, fun D hD => ?_⟩
    rw [hxl, List.take_length] at hA
    have fr : H D = none := by
      cases e : H D with
      | none => rfl
      | some o => rw [s1 _ _ e] at hD; cases hD
    exact hq D acc _ (s1.trans (Same.upd hD _)) fr upd_same (hA.same (Same.upd hD _))
section
variable {P : Program} {w : World} {K : PySem.W.Frag} {mg : Str → Option Value} {base : Heap} {t : Adr}
theorem ok_law6 (T : Txt K mg t) (K__law_cell_at : Known P w K mg base 1 "_law_cell_at" ["_law_script", "_law_k"] (spCell K)) (K__law_draw : Known P w K mg base 1 "_law_draw" ["_law_cell", "_law_k", "_law_many"] spDraw)
    (K__law_tried : Known P w K mg base 1 "_law_tried" ["_law_most"] (spDue 0 60)) (K__law_sources : Known P w K mg base 2 "_law_sources" ["_law_most"] (spDue 61 300)) (K_walks : Known P w K mg base 3 "walks" ["most"] spWalks)
    (K__law_source_right : Known P w K mg base 2 "_law_source_right" ["_law_walk", "_law_found"] spSrcRight) (K_source : Known P w K mg base 4 "source" ["walk"] spSource) (K__law_made : Known P w K mg base 1 "_law_made" ["_law_m", "_law_n", "_law_k"] spMade) : Known P w K mg base 8 "law" ["_law_script"] (spLaw K) := by
  have S : FnScope ["_law_script", "_law_cell", "_law_most", "_law_due", "_law_again", "_law_found", "_law_wanted", "_law_third", "_law_one", "_law_other", "_law_walk", "_law_at", "_law_more", "_law_n", "_law_m"] ["_law_script"] (defScope s_law) := ⟨rfl, rfl, rfl, by decide +kernel, rfl, by decide +kernel, by decide +kernel⟩
  refine Known.of T.h_law S (fun vs H Q E h => ?_) (fun f cdv A outer s H vs Q E hr h => ?_)
  · obtain ⟨c, ns, rfl, _⟩ := h
    rfl
  obtain ⟨l, ns, rfl, hl, hz, q⟩ := h
  refine ⟨_, (pss_cons (ps_set (i := 1) S.nd rfl (by first | exact Or.inl rfl | exact Or.inr rfl) (pe_fn K__law_cell_at (hr.mono (by decide : 1 ≤ 7)) rfl (pa_cons (pv 0) (pa_cons pe_int pa_nil))))
      (pss_cons (ps_set (i := 2) S.nd rfl (by first | exact Or.inl rfl | exact Or.inr rfl) (pe_ifExp (pt_truth (pe_fn K__law_draw (hr.mono (by decide : 1 ≤ 7)) rfl (pa_cons (pv 1) (pa_cons pe_int (pa_cons pe_int pa_nil)))) (fun _ => rfl)) (pe_fn K__law_draw (hr.mono (by decide : 1 ≤ 7)) rfl (pa_cons (pv 1) (pa_cons pe_int (pa_cons pe_int pa_nil)))) (pe_fn K__law_draw (hr.mono (by decide : 1 ≤ 7)) rfl (pa_cons (pv 1) (pa_cons pe_int (pa_cons pe_int pa_nil))))))
      (pss_cons (ps_set (i := 3) S.nd rfl (by first | exact Or.inl rfl | exact Or.inr rfl) (pe_ifExp (pt_cmpR op_lt (pv 2) pe_int (nomark _)) (pe_fn K__law_tried (hr.mono (by decide : 1 ≤ 7)) rfl (pa_cons (pv 2) pa_nil)) (pe_fn K__law_sources (hr.mono (by decide : 2 ≤ 7)) rfl (pa_cons (pv 2) pa_nil))))
      (pss_cons (ps_for PassesOwn.never rfl (pi_range1 rfl T.z_range (pa_cons pe_int pa_nil)) (pg_name (i := 4) S.nd rfl (by first | exact Or.inl rfl | exact Or.inr rfl)) (pss_cons (ps_set (i := 5) S.nd rfl (by first | exact Or.inl rfl | exact Or.inr rfl) (pe_fn K_walks (hr.mono (by decide : 3 ≤ 7)) rfl (pa_cons (pv 2) pa_nil)))
      (pss_cons (ps_setComp (i := 6) S.nd rfl rfl (N' := ["_law_third", "_law_one", "_law_other"]) (cap := [none, none, none]) rfl (pi_list (pv 3)) (by show scopeOk _ (defScope s_law) = true; decide +kernel) (by show capsOk ["_law_script", "_law_cell", "_law_most", "_law_due", "_law_again", "_law_found", "_law_wanted", "_law_third", "_law_one", "_law_other", "_law_walk", "_law_at", "_law_more", "_law_n", "_law_m"] _ _ _ = true; decide +kernel) (fun _ _ _ _ => ⟨(pg_tupK (K := K) (n := 3) rfl rfl (pgs_cons (pg_name (i := 0) (show List.Nodup (["_law_third", "_law_one", "_law_other"] : List Str) by decide +kernel) rfl (by first | exact Or.inl rfl | exact Or.inr rfl)) (pgs_cons (pg_name (i := 1) (show List.Nodup (["_law_third", "_law_one", "_law_other"] : List Str) by decide +kernel) rfl (by first | exact Or.inl rfl | exact Or.inr rfl)) (pgs_cons (pg_name (i := 2) (show List.Nodup (["_law_third", "_law_one", "_law_other"] : List Str) by decide +kernel) rfl (by first | exact Or.inl rfl | exact Or.inr rfl)) pgs_nil)))), pf_nil, (pe_tup (pa_cons (pv 1) (pa_cons (pv 2) (pa_cons (pv 0) pa_nil))))⟩))
      (pss_cons (ps_if (PW.pt (pw_or (pt_not (pt_val (pe_callB call_isinst rfl T.z_isinstance bt_isinstance (pa_cons (pv 5) (pa_cons (pe_ty rfl T.z_list bt_list) pa_nil))))) (pw_or1 (pt_cmpR (op_neD hr.units) (pv 5) (pv 6) (nomark _))))) (pss_one (ps_ret pe_bl))
      pss_nil)
      (pss_one (ps_expr (pe_bm PySem.F.plainAttrs_list PySem.F.slot_list_append PySem.F.type_list_append mt_append (pv 5) (pa_cons (pe_tup pa_nil) pa_nil))))))))
      (pss_cons (ps_for PassesOwn.never rfl (pi_list (pe_op op_cat (pe_slice sl_list (pv 3) po_none (po_some pe_int)) (pe_slice sl_list (pv 3) (po_some (pe_un un_neg pe_int)) po_none))) (pg_tup (n := 3) rfl (pgs_cons (pg_name (i := 7) S.nd rfl (by first | exact Or.inl rfl | exact Or.inr rfl)) (pgs_cons (pg_name (i := 8) S.nd rfl (by first | exact Or.inl rfl | exact Or.inr rfl)) (pgs_cons (pg_name (i := 9) S.nd rfl (by first | exact Or.inl rfl | exact Or.inr rfl)) pgs_nil)))) (pss_cons (ps_set (i := 10) S.nd rfl (by first | exact Or.inl rfl | exact Or.inr rfl) (pe_tup (pa_cons (pv 8) (pa_cons (pv 9) (pa_cons (pv 7) pa_nil)))))
      (pss_one (ps_if (pt_not (pt_val (pe_fn K__law_source_right (hr.mono (by decide : 2 ≤ 7)) rfl (pa_cons (pv 10) (pa_cons (pe_fn K_source (hr.mono (by decide : 4 ≤ 7)) rfl (pa_cons (pv 10) pa_nil)) pa_nil))))) (pss_one (ps_ret pe_bl))
      pss_nil))))
      (pss_cons (ps_for PassesOwn.never rfl (pi_range1 rfl T.z_range (pa_cons pe_int pa_nil)) (pg_name (i := 11) S.nd rfl (by first | exact Or.inl rfl | exact Or.inr rfl)) (pss_cons (ps_set (i := 12) S.nd rfl (by first | exact Or.inl rfl | exact Or.inr rfl) (pe_op op_add (pe_fn K__law_cell_at (hr.mono (by decide : 1 ≤ 7)) rfl (pa_cons (pv 0) (pa_cons (pe_op op_add pe_int (pv 11)) pa_nil))) (pe_op op_mul pe_int (pv 11))))
      (pss_cons (ps_set (i := 13) S.nd rfl (by first | exact Or.inl rfl | exact Or.inr rfl) (pe_op op_add pe_int (pe_fn K__law_draw (hr.mono (by decide : 1 ≤ 7)) rfl (pa_cons (pv 12) (pa_cons pe_int (pa_cons pe_int pa_nil))))))
      (pss_cons (ps_set (i := 14) S.nd rfl (by first | exact Or.inl rfl | exact Or.inr rfl) (pe_op op_add (pe_op op_add (pv 13) pe_int) (pe_op op_mul pe_int (pe_fn K__law_draw (hr.mono (by decide : 1 ≤ 7)) rfl (pa_cons (pv 12) (pa_cons pe_int (pa_cons pe_int pa_nil)))))))
      (pss_cons (ps_asg (pe_fn K__law_made (hr.mono (by decide : 1 ≤ 7)) rfl (pa_cons (pv 14) (pa_cons (pv 13) (pa_cons (pe_op op_add pe_int (pe_fn K__law_draw (hr.mono (by decide : 1 ≤ 7)) rfl (pa_cons (pv 12) (pa_cons pe_int (pa_cons pe_int pa_nil))))) pa_nil)))) (pg_tup (n := 3) rfl (pgs_cons (pg_name (i := 7) S.nd rfl (by first | exact Or.inl rfl | exact Or.inr rfl)) (pgs_cons (pg_name (i := 8) S.nd rfl (by first | exact Or.inl rfl | exact Or.inr rfl)) (pgs_cons (pg_name (i := 9) S.nd rfl (by first | exact Or.inl rfl | exact Or.inr rfl)) pgs_nil)))))
      (pss_cons (ps_set (i := 10) S.nd rfl (by first | exact Or.inl rfl | exact Or.inr rfl) (pe_tup (pa_cons (pv 8) (pa_cons (pv 9) (pa_cons (pv 7) pa_nil)))))
      (pss_one (ps_if (PW.pt (pw_and (pt_cmpR op_le (pv 7) pe_int (nomark _)) (pw_and1 (pt_not (pt_val (pe_fn K__law_source_right (hr.mono (by decide : 2 ≤ 7)) rfl (pa_cons (pv 10) (pa_cons (pe_fn K_source (hr.mono (by decide : 4 ≤ 7)) rfl (pa_cons (pv 10) pa_nil)) pa_nil)))))))) (pss_one (ps_ret pe_bl))
      pss_nil))))))))
      (pss_one (ps_ret (pe_and (pe_cmpR (op_eqD hr.units) (pe_fn K_walks (hr.mono (by decide : 3 ≤ 7)) rfl (pa_cons pe_int pa_nil)) (pe_lst pa_nil) (nomark _)) (pe_one (pe_cmpR (op_eqD hr.units) (pe_fn K_walks (hr.mono (by decide : 3 ≤ 7)) rfl (pa_cons pe_int pa_nil)) (pe_lst (pa_cons (pe_tup (pa_cons pe_int (pa_cons pe_int (pa_cons pe_int pa_nil)))) pa_nil)) (nomark _)))))))))))), ?_⟩
  have key : ∀ (c : Int) (F : V → VK), (∀ (M : Nat) (due : Addr) (xs : List V) (H1 : Hp), M ≤ 300 → Same H H1 → H due = none → H1 due = some (.lst xs) → P3 H1 xs (WT M) → F (.int M) (.ref due) H1) →
      spDraw [.int c, .int 2, .int 4] H (fun x1 H' => ∃ k, TruV K x1 H' k ∧ if k = true then spDraw [.int c, .int 1, .int 61] H' (fun x2 H1 => ∃ i, x2 = V.int i ∧ if i < 61 then spDue 0 60 [x2] H1 (F x2) E0 else spDue 61 300 [x2] H1 (F x2) E0) E0
        else spDraw [.int c, .int 3, .int 301] H' (fun x2 H1 => ∃ i, x2 = V.int i ∧ if i < 61 then spDue 0 60 [x2] H1 (F x2) E0 else spDue 61 300 [x2] H1 (F x2) E0) E0) E0 := by
    intro c F hF
    have two : ∀ (v : Int) (H1 : Hp), 0 ≤ v → v < 301 → Same H H1 → ∃ i, V.int v = V.int i ∧ if i < 61 then spDue 0 60 [V.int v] H1 (F (V.int v)) E0 else spDue 61 300 [V.int v] H1 (F (V.int v)) E0 := by
      intro v H1 h0 h1 s1
      refine ⟨v, rfl, ?_⟩
      obtain ⟨M, rfl⟩ : ∃ M : Nat, v = (M : Int) := ⟨v.toNat, by omega⟩
      have fr : ∀ {a : Addr}, H1 a = none → H a = none := fun {a} e => by
        cases e2 : H a with
        | none => rfl
        | some o => rw [s1 _ _ e2] at e; cases e
      split
      · exact ⟨M, rfl, by omega, by omega, fun l xs H2 s2 hl hL hP => hF M l xs H2 (by omega) (s1.trans s2) (fr hl) hL hP⟩
      · exact ⟨M, rfl, by omega, by omega, fun l xs H2 s2 hl hL hP => hF M l xs H2 (by omega) (s1.trans s2) (fr hl) hL hP⟩
    refine rd_draw 2 (by decide) (by decide) fun H1 s1 => ⟨(draw c 2 4 != 0), rfl, ?_⟩
    split
    · refine rd_draw 1 (by decide) (by decide) fun H2 s2 => two _ H2 (draw_lt (by decide)).1 ?_ (s1.trans s2)
      have := (draw_lt (c := c) (k := 1) (m := 61) (by decide)).2
      omega
    · refine rd_draw 3 (by decide) (by decide) fun H2 s2 => two _ H2 (draw_lt (by decide)).1 (draw_lt (by decide)).2 (s1.trans s2)
  walk_at "rd"
  refine ⟨l, ns, 0, rfl, hl, hz, key _ _ fun M due xs H1 hM s1 hdue0 hdL hdP => ?_⟩
  have hlen := WT_len hM
  have hxl := hdP.length
  refine ⟨2, rfl, by decide, by decide, for_range (n := 2) (fun i σ H2 => Same H1 H2 ∧ ∃ y4 y5 y6 : Option V, σ = [some (.ref l), some (.int (cellAt ns 0)), some (.int M), some (.ref due), y4, y5, y6, none, none, none, none, none, none, none, none]) ⟨Same.refl _, none, none, none, rfl⟩ ?_ ?_⟩
  · rintro i σ H2 hi ⟨s2, y4, y5, y6, rfl⟩
    walk_at "rd"
    refine ⟨M, rfl, hM, fun ts fl zs H3 hW s3 hfl hfL hfP hfz => ?_⟩
    have e1 := hW.eq hM
    subst e1
    have s13 := s2.trans s3
    refine ⟨_, rfl, due, rfl, ⟨_, SqL.of (s13 _ _ hdL)⟩, comp_rot (s13 _ _ hdL) (hdP.same s13) (by omega) fun D ws H4 s4 hD hDL hDP => ?_⟩
    have hfL4 := s4 _ _ hfL
    refine ⟨true, inst_ll hfL4, ?_⟩
    rw [if_neg (by decide)]
    refine ⟨.list (tripsD ((WT M).map rot)), .lst (SqL.of hfL4) (hfP.same s4).data, .list (tripsD ((WT M).map rot)), .lst (SqL.of hDL) hDP.data, tripsD_shaped _, tripsD_shaped _, ?_⟩
    rw [tripsD_eqv, if_neg (by decide)]
    refine ⟨_, rfl, .inl ⟨rfl, _, SqL.of hfL4⟩, ?_⟩
    walk_at "rd"
    have hzl : zs.length ≤ 1000 := by
      rw [hfP.length, List.length_map]
      omega
    refine ⟨by show 0 ≤ sizeLine; decide, fun a ha => ⟨fl, zs, _, rfl, rfl, Same.upd ha _ _ _ hfL4, small1000 hzl, fun b o e => ?_, _, rfl⟩⟩
    rw [upd_ne (ne_of_none (s2 _ _ e) hfl)]
    exact Same.upd ha _ _ _ (s4 _ _ (s13 _ _ e))
  · rintro σ H2 ⟨s2, y4, y5, y6, rfl⟩
    have hdL2 := s2 _ _ hdL
    have hdP2 := hdP.same s2
    have cutm : ∀ (lo hi : Option Int) (v : V), v ∈ cutV xs lo hi → v ∈ xs := fun lo hi v hv => by
      unfold cutV at hv
      exact List.mem_of_mem_drop (List.mem_of_mem_take hv)
    have cutl : ∀ (lo hi : Option Int), (cutV xs lo hi).length ≤ xs.length := fun lo hi => by
      unfold cutV
      rw [List.length_take, List.length_drop]
      omega
    refine seq_of ?_
    refine ⟨_, rfl, 4, rfl, due, xs, rfl, SqL.of hdL2, fun p1 hp1 => ?_⟩
    have hA1 : upd H2 p1 (.lst (cutV xs none (some 4))) p1 = some (.lst (cutV xs none (some 4))) := upd_same
    have s3 := Same.upd hp1 (.lst (cutV xs none (some 4)))
    generalize upd H2 p1 (.lst (cutV xs none (some 4))) = H3 at hA1 s3
    generalize hcA : cutV xs none (some 4) = cA at hA1
    refine ⟨_, rfl, _, rfl, _, rfl, due, xs, rfl, SqL.of (s3 _ _ hdL2), fun p2 hp2 => ?_⟩
    have hB1 : upd H3 p2 (.lst (cutV xs (some (-4)) none)) p2 = some (.lst (cutV xs (some (-4)) none)) := upd_same
    have s4 := Same.upd hp2 (.lst (cutV xs (some (-4)) none))
    generalize upd H3 p2 (.lst (cutV xs (some (-4)) none)) = H4 at hB1 s4
    generalize hcB : cutV xs (some (-4)) none = cB at hB1
    have lA : cA.length ≤ xs.length := hcA ▸ cutl _ _
    have lB : cB.length ≤ xs.length := hcB ▸ cutl _ _
    refine ⟨p1, p2, cA, cB, rfl, rfl, s4 _ _ hA1, hB1, Nat.le_of_lt (small1000 (by omega)), fun p3 hp3 => ⟨p3, rfl, ⟨_, SqL.of upd_same⟩, ?_⟩⟩
    have hC : upd H4 p3 (.lst (cA ++ cB)) p3 = some (.lst (cA ++ cB)) := upd_same
    have s5 := (s3.trans s4).trans (Same.upd hp3 (.lst (cA ++ cB)))
    generalize upd H4 p3 (.lst (cA ++ cB)) = H5 at hC s5
    have hin : ∀ v, v ∈ cA ++ cB → v ∈ xs := fun v hv => by
      rcases List.mem_append.mp hv with z | z
      · exact cutm _ _ v (hcA ▸ z)
      · exact cutm _ _ v (hcB ▸ z)
    refine for_list (K := K) (a := p3) (xs := cA ++ cB) (fun i σ H6 => Same H5 H6 ∧ ∃ y4 y5 y6 y7 y8 y9 y10 : Option V, σ = [some (.ref l), some (.int (cellAt ns 0)), some (.int M), some (.ref due), y4, y5, y6, y7, y8, y9, y10, none, none, none, none])
      ⟨Same.refl _, _, _, _, _, _, _, _, rfl⟩ (fun j σ H6 _ ⟨s6, _⟩ => SqL.of (s6 _ _ hC)) ?_ ?_
    · rintro j v σ H6 hj ⟨s6, y4, y5, y6, y7, y8, y9, y10, rfl⟩
      have hv := hin v (List.mem_of_getElem? hj)
      obtain ⟨k, hk⟩ := List.mem_iff_getElem?.mp hv
      have s26 := s5.trans s6
      obtain ⟨pt, a, hpt, rfl, ha⟩ := (hdP2.same s26).get hk
      obtain ⟨o1, o2⟩ := WT_ok hM (List.mem_of_getElem? hpt)
      obtain ⟨c, x, y⟩ := pt
      obtain ⟨w1, w2⟩ := okS_src o1 (Nat.le_trans o2 (by decide))
      walk_at "rd"
      refine ⟨_, SqT.of ha, rfl, _, _, rfl, _, _, rfl, _, _, rfl, rfl, ?_⟩
      refine ⟨by show 3 ≤ sizeLine; decide, fun u hu => ?_⟩
      have hu1 : upd H6 u (.tup [V.int (x : Int), V.int (y : Int), V.int (c : Int)]) u = some (.tup [V.int (x : Int), V.int (y : Int), V.int (c : Int)]) := upd_same
      have s7 := Same.upd hu (.tup [V.int (x : Int), V.int (y : Int), V.int (c : Int)])
      generalize upd H6 u (.tup [V.int (x : Int), V.int (y : Int), V.int (c : Int)]) = H7 at hu1 s7
      refine ⟨u, x, y, c, rfl, hu1, w1, fun u2 m n g H8 s8 hg hm hn hu2 => ?_⟩
      obtain ⟨v1, v2⟩ := w2 m n g hg hm hn
      refine ⟨u, u2, m, n, g, x, y, c, rfl, s8 _ _ hu1, hu2, v1, v2, fun H9 s9 => ⟨true, rfl, ?_⟩⟩
      rw [if_neg (by decide)]
      exact ⟨((s6.trans s7).trans s8).trans s9, _, rfl⟩
    · rintro σ H6 ⟨s6, y4, y5, y6, y7, y8, y9, y10, rfl⟩
      have s16 := (s2.trans s5).trans s6
      have sH6 := s1.trans s16
      refine seq_of ⟨3, rfl, by decide, by decide, for_range (n := 3) (fun i σ H7 => Same H6 H7 ∧ ∃ y4 y5 y6 y7 y8 y9 y10 y11 y12 y13 y14 : Option V, σ = [some (.ref l), some (.int (cellAt ns 0)), some (.int M), some (.ref due), y4, y5, y6, y7, y8, y9, y10, y11, y12, y13, y14])
        ⟨Same.refl _, _, _, _, _, _, _, _, _, _, _, _, rfl⟩ ?_ ?_⟩
      · rintro i σ H7 hi ⟨s7, y4, y5, y6, y7, y8, y9, y10, y11, y12, y13, y14, rfl⟩
        walk_at "rd"
        simp only [Int.zero_add]
        refine ⟨l, ns, i + 1, by rw [show (1 + (i : Int)) = ((i + 1 : Nat) : Int) by omega], (sH6.trans s7).seq hl, hz, ?_⟩
        dsimp only
        refine ⟨.inr ⟨by omega, by omega⟩, _, rfl, ?_⟩
        generalize cellAt ns (i + 1) + 977 * (i : Int) = cc
        have d1 := draw_lt (c := cc) (k := 1) (m := 40) (by decide)
        have d2 := draw_lt (c := cc) (k := 2) (m := 12) (by decide)
        have d3 := draw_lt (c := cc) (k := 3) (m := 3) (by decide)
        obtain ⟨n0, hn0⟩ : ∃ n0 : Nat, draw cc 1 40 = (n0 : Int) := ⟨(draw cc 1 40).toNat, by omega⟩
        obtain ⟨j0, hj0⟩ : ∃ n0 : Nat, draw cc 2 12 = (n0 : Int) := ⟨(draw cc 2 12).toNat, by omega⟩
        obtain ⟨k0, hk0⟩ : ∃ n0 : Nat, draw cc 3 3 = (n0 : Int) := ⟨(draw cc 3 3).toNat, by omega⟩
        refine rd_draw 1 (by decide) (by decide) fun H8 s8 => ⟨_, rfl, ?_⟩
        refine rd_draw 2 (by decide) (by decide) fun H9 s9 => ⟨_, rfl, .inr ⟨by omega, by omega⟩, ?_⟩
        refine rd_draw 3 (by decide) (by decide) fun H10 s10 => ⟨_, rfl, ?_⟩
        rw [hn0, hj0, hk0]
        rw [hn0] at d1
        rw [hj0] at d2
        rw [hk0] at d3
        have em : (1 + (n0 : Int) + 1 + 2 * (j0 : Int)) = ((n0 + 1 + 1 + 2 * j0 : Nat) : Int) := by omega
        have en : (1 + (n0 : Int)) = ((n0 + 1 : Nat) : Int) := by omega
        have ek : (1 + (k0 : Int)) = ((k0 + 1 : Nat) : Int) := by omega
        rw [em, en, ek]
        obtain ⟨m, hm⟩ : ∃ m : Nat, n0 + 1 + 1 + 2 * j0 = m := ⟨_, rfl⟩
        rw [hm]
        refine ⟨m, n0 + 1, k0 + 1, rfl, by omega, by omega, by omega, fun a H11 s11 _ ha => ?_⟩
        have ok := made_ok (m := m) (n := n0) (k := k0) (j := j0) (by omega) (by omega) (by omega) (by omega)
        generalize made m (n0 + 1) (k0 + 1) = pt at ha ok
        obtain ⟨c, x, y⟩ := pt
        dsimp only at ha ok
        refine ⟨a, rfl, _, SqT.of ha, rfl, _, _, rfl, _, _, rfl, _, _, rfl, rfl, by show 3 ≤ sizeLine; decide, fun u hu => ?_⟩
        have hu1 : upd H11 u (.tup [V.int (x : Int), V.int (y : Int), V.int (c : Int)]) u = some (.tup [V.int (x : Int), V.int (y : Int), V.int (c : Int)]) := upd_same
        have s12 := Same.upd hu (.tup [V.int (x : Int), V.int (y : Int), V.int (c : Int)])
        generalize upd H11 u (.tup [V.int (x : Int), V.int (y : Int), V.int (c : Int)]) = H12 at hu1 s12
        have s712 := ((((s7.trans s8).trans s9).trans s10).trans s11).trans s12
        refine ⟨_, rfl, ?_⟩
        by_cases hc : c ≤ 10000
        · rw [if_pos (by omega)]
          obtain ⟨w1, w2⟩ := okS_src (ok hc) hc
          refine ⟨u, x, y, c, rfl, hu1, w1, fun u2 m n g H8 s8 hg hm hn hu2 => ?_⟩
          obtain ⟨v1, v2⟩ := w2 m n g hg hm hn
          refine ⟨u, u2, m, n, g, x, y, c, rfl, s8 _ _ hu1, hu2, v1, v2, fun H9 s9 => ⟨true, rfl, ?_⟩⟩
          rw [if_neg (by decide)]
          exact ⟨(s712.trans s8).trans s9, _, rfl⟩
        · rw [if_neg (by omega)]
          exact ⟨s712, _, rfl⟩
      · rintro σ H7 ⟨s7, y4, y5, y6, y7, y8, y9, y10, y11, y12, y13, y14, rfl⟩
        walk_at "rd"
        refine ⟨4, rfl, by decide, fun ts fl zs H8 hW s8 hfl hfL hfP hfz => ?_⟩
        have e1 := hW.eq (by decide)
        rw [WT4] at e1
        subst e1
        refine ⟨by show 0 ≤ sizeLine; decide, fun p hp => ?_⟩
        have hp1 : upd H8 p (.lst []) p = some (.lst []) := upd_same
        have t1 := Same.upd hp (.lst [])
        generalize upd H8 p (.lst []) = H9 at hp1 t1
        refine ⟨.list (tripsD []), .lst (SqL.of (t1 _ _ hfL)) (hfP.same t1).data, .list [], .lst (SqL.of hp1) .nil, tripsD_shaped [], tripsD_shaped [], ?_⟩
        rw [show PyData.eqv (.list (tripsD [])) (.list []) = true from tripsD_eqv [], if_pos rfl]
        refine ⟨5, rfl, by decide, fun ts fl zs H8 hW s8 hfl hfL hfP hfz => ?_⟩
        have e1 := hW.eq (by decide)
        rw [WT5] at e1
        subst e1
        refine ⟨by show 3 ≤ sizeLine; decide, fun p hp => ⟨by show 1 ≤ sizeLine; decide, fun r hr => ?_⟩⟩
        have hr1 : upd (upd H8 p (.tup [V.int 3, V.int 4, V.int 5])) r (.lst [V.ref p]) r = some (.lst [V.ref p]) := upd_same
        have hp1 : upd (upd H8 p (.tup [V.int 3, V.int 4, V.int 5])) r (.lst [V.ref p]) p = some (.tup [V.int 3, V.int 4, V.int 5]) := Same.upd hr _ _ _ upd_same
        have t1 := (Same.upd hp (.tup [V.int 3, V.int 4, V.int 5])).trans (Same.upd hr (.lst [V.ref p]))
        generalize upd (upd H8 p (.tup [V.int 3, V.int 4, V.int 5])) r (.lst [V.ref p]) = H9 at hr1 hp1 t1
        refine ⟨.list (tripsD [(3, 4, 5)]), .lst (SqL.of (t1 _ _ hfL)) (hfP.same t1).data, .list (tripsD [(3, 4, 5)]), .lst (SqL.of hr1) (.cons (.tup (SqT.of hp1) (.cons (.int _) (.cons (.int _) (.cons (.int _) .nil)))) .nil), tripsD_shaped _, tripsD_shaped _, ?_⟩
        rw [tripsD_eqv]
        exact q _
end
end Sq

namespace Sq
open PySem L2
theorem the_law {P : Program} {w : World} {K : PySem.W.Frag} {mg : Str → Option Value} {base : Heap} {t : Adr} (T : Txt K mg t) : Known P w K mg base 8 "law" ["_law_script"] (spLaw K) := by
  have n1 := ok_is_whole (P := P) (w := w) (base := base) T
  have n2 := ok_is_number T n1
  have wr := ok_whole_root (P := P) (w := w) (base := base) T
  have po := ok_pairs_of T wr
  have gc := ok_law_common (P := P) (w := w) (base := base) T
  have md := ok_law_made (P := P) (w := w) (base := base) T
  exact ok_law6 T (ok_law_cell_at T) (ok_law_draw T) (ok_law_tried T) (ok_law_sources T gc md) (ok_walks T n2 po) (ok_law_source_right T gc md) (ok_source T (ok_is_walk T n2) (ok_common_divisor T) wr) md
end Sq

namespace Sq
open PySem L2

theorem walk {l : PySem.W.OpenLaw} {q : Program} {loose : List Str} {XP : (Str → Option Value) → Heap → Prop} {YP : World → Heap → Prop} {d : DefRec} {K : Params → PySem.W.Frag} (hn : l.most = some 63) (hdf : d.params.defaults = [])
    (hY : ∀ (w : World) (h : Heap), YP w h → (K w.params).In h)
    (F : ∀ (w : World) (mg : Str → Option Value) (fa : Addr) (h : Heap), (K w.params).In h → h.Ns mainGlobals mg → mg d.name = some (.ref fa) →
      ∃ fd : FuncData, (∀ (s : Shared) (u : Value), BindsTo s fd ⟨[u], []⟩ [("_law_script", u)]) ∧ ∀ base : Heap, (K w.params).In base → base.Ns mainGlobals mg → FnOk l.prog w (K w.params) mg base CX0 60 fa fd ["_law_script"] (spLaw (K w.params))) :
    PySem.W.WalkO q loose XP YP l.row.toRowW d [] (fun f vs => PySem.call f vs) :=
  L2.walk_of (n := 63) (k := 60) (x := "_law_script") (CX := fun _ => CX0) (sp := fun w => spLaw (K w.params)) hn (by decide) hdf ⟨rfl, by decide, by decide⟩ hY F (fun _ _ a ns hl _ hS => ⟨a, ns, rfl, hS, hl, fun _ => rfl⟩) fun _ _ _ _ _ z => z
end Sq
open PySem PySem.W PyProof.Rows
set_option maxRecDepth 100000 in
set_option maxHeartbeats 0 in
theorem PySem.Challenge.cw_squarefield_k06_walks_holds : PySem.Challenge.rw_squarefield_k06_walks.Holds := by
  w_on; o_law; k_head; (case hw => w_witness2)
  k_fill
  refine Sq.walk (l := PySem.Challenge.rw_squarefield_k06_walks) rfl rfl (fun w h Y => PySem.W.kIn_of Y) ?F
  case F =>
    intro w mg fa h KX G hmg
    have T : ∃ t, Sq.Txt (L2.KOf KX) mg t := by
      dsimp only [L2.KOf]
      refine' Sq.txt_mk KX G ?z_isinstance ?z_int ?z_bool ?z_list ?z_tuple ?z_len ?z_all ?z_any ?z_sorted ?z_range ?z_max ?z_min ?g_MOST_NUMBER ?g_MOST_THIRD ?ndp ?a_is_whole ?l_is_whole ?c_is_whole ?k_is_whole ?a_is_number ?l_is_number ?c_is_number ?k_is_number ?a_whole_root ?l_whole_root ?c_whole_root ?k_whole_root ?a_pairs_of ?l_pairs_of ?c_pairs_of ?k_pairs_of ?a_walks ?l_walks ?c_walks ?k_walks ?a_source ?l_source ?c_source ?k_source ?a_is_walk ?l_is_walk ?c_is_walk ?k_is_walk ?a_common_divisor ?l_common_divisor ?c_common_divisor ?k_common_divisor ?a__law_cell_at ?l__law_cell_at ?c__law_cell_at ?k__law_cell_at ?a__law_draw ?l__law_draw ?c__law_draw ?k__law_draw ?a__law_common ?l__law_common ?c__law_common ?k__law_common ?a__law_tried ?l__law_tried ?c__law_tried ?k__law_tried ?a__law_made ?l__law_made ?c__law_made ?k__law_made ?a__law_sources ?l__law_sources ?c__law_sources ?k__law_sources ?a__law_source_right ?l__law_source_right ?c__law_source_right ?k__law_source_right ?a_law ?l_law ?c_law ?k_law
      (case z_isinstance => k_is)
      (case z_int => k_is)
      (case z_bool => k_is)
      (case z_list => k_is)
      (case z_tuple => k_is)
      (case z_len => k_is)
      (case z_all => k_is)
      (case z_any => k_is)
      (case z_sorted => k_is)
      (case z_range => k_is)
      (case z_max => k_is)
      (case z_min => k_is)
      (case g_MOST_NUMBER => k_is)
      (case g_MOST_THIRD => k_is)
      (case ndp => decide)
      (case a_is_whole => k_is)
      (case l_is_whole => k_is)
      (case c_is_whole => k_is)
      (case k_is_whole => k_is)
      (case a_is_number => k_is)
      (case l_is_number => k_is)
      (case c_is_number => k_is)
      (case k_is_number => k_is)
      (case a_whole_root => k_is)
      (case l_whole_root => k_is)
      (case c_whole_root => k_is)
      (case k_whole_root => k_is)
      (case a_pairs_of => k_is)
      (case l_pairs_of => k_is)
      (case c_pairs_of => k_is)
      (case k_pairs_of => k_is)
      (case a_walks => k_is)
      (case l_walks => k_is)
      (case c_walks => k_is)
      (case k_walks => k_is)
      (case a_source => k_is)
      (case l_source => k_is)
      (case c_source => k_is)
      (case k_source => k_is)
      (case a_is_walk => k_is)
      (case l_is_walk => k_is)
      (case c_is_walk => k_is)
      (case k_is_walk => k_is)
      (case a_common_divisor => k_is)
      (case l_common_divisor => k_is)
      (case c_common_divisor => k_is)
      (case k_common_divisor => k_is)
      (case a__law_cell_at => k_is)
      (case l__law_cell_at => k_is)
      (case c__law_cell_at => k_is)
      (case k__law_cell_at => k_is)
      (case a__law_draw => k_is)
      (case l__law_draw => k_is)
      (case c__law_draw => k_is)
      (case k__law_draw => k_is)
      (case a__law_common => k_is)
      (case l__law_common => k_is)
      (case c__law_common => k_is)
      (case k__law_common => k_is)
      (case a__law_tried => k_is)
      (case l__law_tried => k_is)
      (case c__law_tried => k_is)
      (case k__law_tried => k_is)
      (case a__law_made => k_is)
      (case l__law_made => k_is)
      (case c__law_made => k_is)
      (case k__law_made => k_is)
      (case a__law_sources => k_is)
      (case l__law_sources => k_is)
      (case c__law_sources => k_is)
      (case k__law_sources => k_is)
      (case a__law_source_right => k_is)
      (case l__law_source_right => k_is)
      (case c__law_source_right => k_is)
      (case k__law_source_right => k_is)
      (case a_law => k_is)
      (case l_law => k_is)
      (case c_law => k_is)
      (case k_law => k_is)
    obtain ⟨t, T⟩ := T
    exact L2.top_law (k := 8) T.h_law hmg (by decide) (fun base => Sq.the_law T) (fun _ _ _ _ _ _ s u => .of_eq rfl)

