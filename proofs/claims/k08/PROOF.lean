import PyProof.Rows.All
import Wide.All
import OpenK.AllK
import Wide.FinOn
import Lean
import PyProof.EqAt
import PyProof.EqKinds
import PyProof.TupleCall
import PySem.Challenge.RW_squarefield_k08_written
set_option Elab.async false
set_option linter.all false
set_option maxRecDepth 100000
/-! THE HAND LAYER, for ints, bools, texts, own classes, LISTS and tuples (index, slices, in, append, pop ..), calls, loops. Paste it whole ahead of your own text; what your proof does not reach may be deleted. -/
namespace L2
open PySem PySem.Spec PyProof.Rows

/-- a key: an int or a str -/
abbrev Key := Sum Int Str
def keyIs : Key → Value → Bool
  | .inl k, v => Value.isInt k v
  | .inr x, v => Value.isStrOf x v
def keyH (w : World) : Key → Int
  | .inl k => hashInt k
  | .inr x => hashStr w x
theorem keyIs_shape : ∀ {k : Key} {v : Value}, keyIs k v = true → (∃ i t, k = Sum.inl i ∧ v = Value.int i t) ∨ (∃ x t, k = Sum.inr x ∧ v = Value.str x t)
  | .inl i, v, h => by
    obtain ⟨t, e⟩ := Value.isInt_shape (k := i) (v := v) h
    exact .inl ⟨i, t, rfl, e⟩
  | .inr x, v, h => by
    obtain ⟨t, e⟩ := Value.isStrOf_shape (x := x) (v := v) h
    exact .inr ⟨x, t, rfl, e⟩
theorem key_ll (a b : Int) : decide ((Sum.inl a : Key) = Sum.inl b) = (a == b) := by
  by_cases e : a = b
  · subst e; simp
  · have h : ¬ (Sum.inl a : Key) = Sum.inl b := fun q => e (Sum.inl.inj q)
    rw [decide_eq_false h]
    exact (beq_eq_false_iff_ne.mpr e).symm
theorem key_rr (a b : Str) : decide ((Sum.inr a : Key) = Sum.inr b) = decide (a = b) := by
  by_cases e : a = b
  · subst e; simp
  · have h : ¬ (Sum.inr a : Key) = Sum.inr b := fun q => e (Sum.inr.inj q)
    rw [decide_eq_false h, decide_eq_false e]
theorem key_lr (a : Int) (b : Str) : decide ((Sum.inl a : Key) = Sum.inr b) = false := decide_eq_false (fun q => nomatch q)
theorem key_rl (a : Str) (b : Int) : decide ((Sum.inr a : Key) = Sum.inl b) = false := decide_eq_false (fun q => nomatch q)

def mixKind (prog : Program) (w : World) : PySem.KeyKind prog w Key where
  is := keyIs
  hash := keyH w
  inj := fun v a b ha hb => by
    rcases keyIs_shape ha with ⟨i, t, rfl, rfl⟩ | ⟨x, t, rfl, rfl⟩
    · rcases keyIs_shape hb with ⟨j, u, rfl, e⟩ | ⟨y, u, rfl, e⟩
      · injection e with e1 _; rw [e1]
      · exact nomatch e
    · rcases keyIs_shape hb with ⟨j, u, rfl, e⟩ | ⟨y, u, rfl, e⟩
      · exact nomatch e
      · injection e with e1 _; rw [e1]
  byValue := fun k v h => by
    rcases keyIs_shape h with ⟨i, t, rfl, rfl⟩ | ⟨x, t, rfl, rfl⟩ <;> rfl
  pyHash := fun hv h => by
    rcases keyIs_shape hv with ⟨i, t, rfl, rfl⟩ | ⟨x, t, rfl, rfl⟩
    · exact wpAny_pyHash_int h
    · exact wpAny_pyHash_str h
  eqBool := fun hu hv h => by
    rcases keyIs_shape hu with ⟨i, t, rfl, rfl⟩ | ⟨x, t, rfl, rfl⟩
    · rcases keyIs_shape hv with ⟨j, u, rfl, rfl⟩ | ⟨y, u, rfl, rfl⟩
      · rw [key_ll] at h; exact wpAny_eqBool_int h
      · rw [key_lr] at h; exact SeqAt.EqAt.int_str i t y u _ _ _ _ h
    · rcases keyIs_shape hv with ⟨j, u, rfl, rfl⟩ | ⟨y, u, rfl, rfl⟩
      · rw [key_rl] at h; exact SeqAt.EqAt.str_int x t j u _ _ _ _ h
      · rw [key_rr] at h; exact wpAny_eqBool_str h
  «strs» := fun k x t v h => by
    rcases keyIs_shape h with ⟨i, u, rfl, e⟩ | ⟨y, u, rfl, e⟩
    · exact nomatch e
    · injection e with e1 _
      subst e1
      cases v <;> rfl

end L2

namespace L2
open PySem PySem.Spec PyProof.Rows

/-- a value, without the heap -/
inductive V where
  | non | bl (b : Bool) | int (i : Int) | str (x : Str) | byt (b : Array UInt8) | flt (b : UInt64) | ref (a : Addr) | ty (n : String)
  deriving DecidableEq

def RelV : V → Value → Prop
  | .non, u => u = Value.none
  | .bl b, u => u = Value.bool b
  | .int i, u => ∃ t, u = Value.int i t
  | .str x, u => ∃ t, u = Value.str x t
  | .byt b, u => ∃ t, u = Value.bytes b t
  | .flt b, u => ∃ t, u = Value.float b t
  | .ref a, u => u = Value.ref a
  | .ty n, u => u = Value.type n

abbrev Vals : List V → List Value → Prop := Paired RelV
theorem Vals.length {xs : List V} {us : List Value} (r : Vals xs us) : xs.length = us.length := Paired.length r
theorem Vals.get : ∀ {xs : List V} {us : List Value} {i : Nat} {x : V}, Vals xs us → xs[i]? = some x → ∃ u, us[i]? = some u ∧ RelV x u
  | _, _, _, _, .nil, e => by simp at e
  | _, _, 0, _, .cons r _, e => by simp at e; subst e; exact ⟨_, rfl, r⟩
  | _, _, i + 1, x, .cons _ t, e => by
    obtain ⟨u, h1, h2⟩ := Vals.get (i := i) (x := x) t (by simpa using e)
    exact ⟨u, by simpa using h1, h2⟩
theorem Vals.set {x : V} {u : Value} (r : RelV x u) : ∀ {xs : List V} {us : List Value} (i : Nat), Vals xs us → Vals (xs.set i x) (us.set i u)
  | _, _, _, .nil => .nil
  | _, _, 0, .cons _ t => .cons r t
  | _, _, i + 1, .cons q t => .cons q (Vals.set r i t)
theorem Vals.append : ∀ {xs ys : List V} {us ws : List Value}, Vals xs us → Vals ys ws → Vals (xs ++ ys) (us ++ ws)
  | _, _, _, _, .nil, s => s
  | _, _, _, _, .cons r t, s => .cons r (Vals.append t s)
theorem Vals.take : ∀ {xs : List V} {us : List Value} (n : Nat), Vals xs us → Vals (xs.take n) (us.take n)
  | _, _, 0, _ => .nil
  | _, _, _ + 1, .nil => .nil
  | _, _, n + 1, .cons r t => .cons r (Vals.take n t)
theorem Vals.drop : ∀ {xs : List V} {us : List Value} (n : Nat), Vals xs us → Vals (xs.drop n) (us.drop n)
  | _, _, 0, r => r
  | _, _, _ + 1, .nil => .nil
  | _, _, n + 1, .cons _ t => Vals.drop n t
theorem Vals.none_of : ∀ {xs : List V} {us : List Value} {i : Nat}, Vals xs us → xs[i]? = none → us[i]? = none := fun {xs us i} r e => by
  have h1 := r.length
  have h2 : xs.length ≤ i := List.getElem?_eq_none_iff.mp e
  exact List.getElem?_eq_none_iff.mpr (by omega)

def RelO : Option V → Option Value → Prop
  | some v, some u => RelV v u
  | none, none => True
  | _, _ => False
def KV {κ : Type} : List (κ × V) → List (κ × Value) → Prop := Paired fun (p : κ × V) (q : κ × Value) => p.1 = q.1 ∧ RelV p.2 q.2

/-- a key of a dict (00_mix): an int or a text -/
def kV : Key → V
  | .inl i => .int i
  | .inr x => .str x

/-- what stands at a tracked address -/
inductive HO where
  /-- a list -/
  | lst (xs : List V)
  /-- a tuple (never changes) -/
  | tup (xs : List V)
  /-- a dict whose keys are ints and texts; one whose keys are tuples of ints and texts (the empty one is both) -/
  | dK (kvs : List (Key × V)) | dT (kvs : List (List Key × V))
  /-- a set of ints: its members, its size -/
  | set (S : Int → Bool) (n : Nat)
  /-- an instance of the class at C, its dict at dx, its attributes -/
  | ins (C dx : Addr) (fs : List (Str × V))
  /-- the dict of the instance at x -/
  | own (x : Addr)
  /-- the dict of an exception -/
  | xd (fs : List (Str × V))
  /-- a bound method, f of x -/
  | met (f x : Addr)
  /-- a range object lo, lo + 1, .. below hi -/
  | rng (lo hi : Int)
  /-- a thing that is known to the object (the script; a dict while a loop walks it): read, never written while it is so -/
  | frz (o : Obj) (u : HO)
  /-- a code object's table -/
  | tbl (ps : Array Value)
  /-- any other thing, by what is true of its one object (a def of one's own: SetO a S n := HO.ext fun h => ..) -/
  | ext (φ : Heap → Prop)

abbrev Hp := Addr → Option HO
def upd (H : Hp) (a : Addr) (o : HO) : Hp := fun b => if b = a then some o else H b
theorem upd_same {H : Hp} {a : Addr} {o : HO} : upd H a o a = some o := by unfold upd; rw [if_pos rfl]
theorem upd_ne {H : Hp} {a b : Addr} {o : HO} (h : b ≠ a) : upd H a o b = H b := by unfold upd; rw [if_neg h]
theorem ne_of_none {H : Hp} {a b : Addr} {o : HO} (h : H a = some o) (h' : H b = none) : a ≠ b := by
  intro e; subst e; rw [h] at h'; cases h'

section
variable (P : Program) (w : World)
def ObjOk (H : Hp) (h : Heap) (a : Addr) : HO → Prop
  | .lst xs => xs.length ≤ sizeLine ∧ ∃ (its : List Value) (n : Nat), Vals xs its ∧ h.get? a = some { cls := .type "list", data := .seq its.toArray n }
  | .tup xs => xs.length ≤ sizeLine ∧ ∃ its : List Value, Vals xs its ∧ IsTup h a its.toArray
  | .dK kvs => kvs.length ≤ sizeLine ∧ (a == sysModules) = false ∧ ∃ vs, KV kvs vs ∧ h.DictOf (mixKind P w) a vs
  | .dT kvs => kvs.length ≤ sizeLine ∧ (a == sysModules) = false ∧ ∃ xs : List (List Key × Addr × Value),
      Paired (fun (p : List Key × V) (q : List Key × Addr × Value) => p.1 = q.1 ∧ H q.2.1 = some (.tup (p.1.map kV)) ∧ RelV p.2 q.2.2) kvs xs ∧
      ∃ o es ep, h.get? a = some o ∧ o.ExactDict ∧ o.data = .dict es ep ∧ es.toList = xs.map (entryOfKey (tupleKind (mixKind P w))) ∧ (xs.map (·.1)).Nodup
  | .set S n => h.SetOf (intKind P w) a S n
  | .ins C dx fs => H dx = some (.own a) ∧ fs.length ≤ 1000 ∧ dx ≠ a ∧ h.get? a = some (PySem.W.instObj C dx) ∧
      ∃ mA, h.Ns1 dx mA ∧ (∀ f, RelO (fs.lookup f) (mA f)) ∧ PySem.Within mA (fs.map (·.1))
  | .own _ => ∃ o, h.get? a = some o
  | .xd fs => ∃ mA, h.Ns1 a mA ∧ ∀ f, RelO (fs.lookup f) (mA f)
  | .rng lo hi => ∃ t u v, h.get? a = some { cls := .type "range", data := .fields #[.int lo t, .int hi u, .int 1 v] }
  | .frz o u => h.get? a = some o ∧ ObjOk H h a u
  | .tbl ps => h.get? a = some { cls := .none, data := .fields ps }
  | .met f x => h.get? a = some (PySem.W.methodObj (.ref f) (.ref x))
  | .ext φ => φ h ∧ (∃ o, h.get? a = some o) ∧ ∀ h1 h2 : Heap, φ h1 → (∀ o, h1.get? a = some o → h2.get? a = some o) → φ h2
/-- the abstract heap is held -/
def HOk (H : Hp) (h : Heap) : Prop := ∀ a o, H a = some o → ObjOk P w H h a o
end

section
variable {P : Program} {w : World} {H H' : Hp} {h h' : Heap} {a : Addr} {o : HO}
theorem ObjOk.lt (x : ObjOk P w H h a o) : a < h.objs.size := by
  cases o with
  | lst xs => obtain ⟨_, _, _, _, e⟩ := x; exact Heap.lt_size e
  | tup xs => obtain ⟨_, _, _, p⟩ := x; exact p.lt
  | dK kvs => obtain ⟨_, _, _, _, o, _, _, e, _⟩ := x; exact Heap.lt_size e
  | dT kvs => obtain ⟨_, _, _, _, o, _, _, e, _⟩ := x; exact Heap.lt_size e
  | set S n => obtain ⟨o, _, _, _, e, _⟩ := x; exact Heap.lt_size e
  | ins C dx fs => obtain ⟨_, _, _, e, _⟩ := x; exact Heap.lt_size e
  | own y => obtain ⟨_, e⟩ := x; exact Heap.lt_size e
  | xd fs => obtain ⟨_, ⟨_, _, _, e, _⟩, _⟩ := x; exact Heap.lt_size e
  | rng lo hi => obtain ⟨_, _, _, e⟩ := x; exact Heap.lt_size e
  | frz ob u => obtain ⟨e, _⟩ := x; exact Heap.lt_size e
  | tbl ps => exact Heap.lt_size (show h.get? a = some _ from x)
  | met f y => exact Heap.lt_size (show h.get? a = some _ from x)
  | ext φ => obtain ⟨_, ⟨_, e⟩, _⟩ := x; exact Heap.lt_size e
theorem Paired.mapP {α β : Type} {F G : α → β → Prop} : ∀ {l₁ : List α} {l₂ : List β}, Paired F l₁ l₂ → (∀ a b, F a b → G a b) → Paired G l₁ l₂
  | _, _, .nil, _ => .nil
  | _, _, .cons r t, f => .cons (f _ _ r) (Paired.mapP t f)
/-- what an object's description leans on: its own object, its own dict, the tuples -/
theorem ObjOk.stay (x : ObjOk P w H h a o) (k : ∀ b u, (b = a ∨ H b = some (.own a)) → h.get? b = some u → h'.get? b = some u)
    (ho : ∀ b, H b = some (.own a) → H' b = some (.own a)) (ht : ∀ b xs, H b = some (.tup xs) → H' b = some (.tup xs)) : ObjOk P w H' h' a o := by
  induction o with
  | lst xs => obtain ⟨z, its, n, r, e⟩ := x; exact ⟨z, its, n, r, k _ _ (.inl rfl) e⟩
  | tup xs => obtain ⟨z, its, r, ob, e, c⟩ := x; exact ⟨z, its, r, ob, k _ _ (.inl rfl) e, c⟩
  | dK kvs => obtain ⟨z, y, vs, r, ob, es, ep, e, c⟩ := x; exact ⟨z, y, vs, r, ob, es, ep, k _ _ (.inl rfl) e, c⟩
  | dT kvs =>
    obtain ⟨z, y, xs, r, ob, es, ep, e, c⟩ := x
    exact ⟨z, y, xs, Paired.mapP r fun p q z => ⟨z.1, ht _ _ z.2.1, z.2.2⟩, ob, es, ep, k _ _ (.inl rfl) e, c⟩
  | set S n => obtain ⟨ob, es, ep, t, e, c⟩ := x; exact ⟨ob, es, ep, t, k _ _ (.inl rfl) e, c⟩
  | ins C dx fs =>
    obtain ⟨d, z, ne, e, mA, ⟨od, es, ep, e2, c⟩, r⟩ := x
    exact ⟨ho _ d, z, ne, k _ _ (.inl rfl) e, mA, ⟨od, es, ep, k _ _ (.inr d) e2, c⟩, r⟩
  | own y => obtain ⟨ob, e⟩ := x; exact ⟨ob, k _ _ (.inl rfl) e⟩
  | xd fs => obtain ⟨mA, ⟨od, es, ep, e, c⟩, r⟩ := x; exact ⟨mA, ⟨od, es, ep, k _ _ (.inl rfl) e, c⟩, r⟩
  | rng lo hi => obtain ⟨t, u, v, e⟩ := x; exact ⟨t, u, v, k _ _ (.inl rfl) e⟩
  | frz ob u ih => obtain ⟨e, q⟩ := x; exact ⟨k _ _ (.inl rfl) e, ih q⟩
  | tbl ps =>
    have e : h.get? a = some { cls := .none, data := .fields ps } := x
    show h'.get? a = some { cls := .none, data := .fields ps }
    exact k a _ (.inl rfl) e
  | met f y =>
    have e : h.get? a = some (PySem.W.methodObj (.ref f) (.ref y)) := x
    show h'.get? a = some (PySem.W.methodObj (.ref f) (.ref y))
    exact k a _ (.inl rfl) e
  | ext φ => obtain ⟨p, ⟨o, e⟩, st⟩ := x; exact ⟨st _ _ p fun o q => k _ _ (.inl rfl) q, ⟨o, k _ _ (.inl rfl) e⟩, st⟩
theorem HOk.lt (x : HOk P w H h) (e : H a = some o) : a < h.objs.size := (x a o e).lt
theorem HOk.fresh (x : HOk P w H h) (e : h.objs.size ≤ a) : H a = none := by
  cases q : H a with
  | none => rfl
  | some u => exact absurd (Nat.lt_of_lt_of_le (x.lt q) e) (Nat.lt_irrefl _)
/-- every object of the heap is kept -/
theorem HOk.kept (x : HOk P w H h) (k : ∀ b u, h.get? b = some u → h'.get? b = some u) : HOk P w H h' := fun a o e =>
  (x a o e).stay (fun b u _ q => k b u q) (fun _ q => q) fun _ _ q => q
/-- a new object is laid and tracked -/
theorem HOk.laid (x : HOk P w H h) (k : ∀ b u, h.get? b = some u → h'.get? b = some u) (hp : h.objs.size ≤ a) (new : ObjOk P w (upd H a o) h' a o) : HOk P w (upd H a o) h' := fun b u e => by
  have hn := x.fresh hp
  by_cases hb : b = a
  · subst hb; rw [upd_same] at e; cases e; exact new
  · rw [upd_ne hb] at e
    exact (x b u e).stay (fun c v _ q => k c v q) (fun c q => by rw [upd_ne (ne_of_none q hn)]; exact q) fun c xs q => by rw [upd_ne (ne_of_none q hn)]; exact q
end

/-- what may be read as u: it is u, or a known u -/
def Rd (H : Hp) (a : Addr) (u : HO) : Prop := H a = some u ∨ ∃ o, H a = some (.frz o u)
theorem Rd.of {H : Hp} {a : Addr} {u : HO} (h : H a = some u) : Rd H a u := .inl h
theorem Rd.ok {P : Program} {w : World} {H : Hp} {h : Heap} {a : Addr} {u : HO} (r : Rd H a u) (x : HOk P w H h) : ObjOk P w H h a u := by
  rcases r with r | ⟨o, r⟩
  · exact x a u r
  · obtain ⟨_, q⟩ := x a _ r
    exact q
/-- what may be written -/
def Mut : Option HO → Prop
  | some (.lst _) => True
  | some (.dK _) => True
  | some (.dT _) => True
  | some (.set _ _) => True
  | some (.ins _ _ _) => True
  | some (.ext _) => True
  | _ => False
section
variable {P : Program} {w : World} {H : Hp} {h h' : Heap} {x e : Addr} {o' : HO}
/-- the object at e is changed: x itself, or the dict of the instance x -/
theorem HOk.write (ok : HOk P w H h) (mu : Mut (H x)) (he : e = x ∨ H e = some (.own x)) (k : ∀ b u, b ≠ e → h.get? b = some u → h'.get? b = some u) (heo : ∃ u, h'.get? e = some u)
    (new : ObjOk P w (upd H x o') h' x o') : HOk P w (upd H x o') h' := fun b u q => by
  have nown : ∀ c y, H c = some (.own y) → c ≠ x := fun c y r z => by subst z; rw [r] at mu; exact mu
  have ntup : ∀ c xs, H c = some (.tup xs) → c ≠ x := fun c xs r z => by subst z; rw [r] at mu; exact mu
  by_cases hb : b = x
  · subst hb; rw [upd_same] at q; cases q; exact new
  · rw [upd_ne hb] at q
    by_cases hbe : b = e
    · have q' : H b = some (.own x) := by
        rcases he with z | z
        · exact absurd (hbe.trans z) hb
        · rw [hbe]; exact z
      rw [q] at q'; cases q'
      obtain ⟨v, hv⟩ := heo
      exact ⟨v, by rw [hbe]; exact hv⟩
    · refine (ok b u q).stay (fun c v hc r => k c v ?_ r) (fun c r => by rw [upd_ne (nown c b r)]; exact r) fun c xs r => by rw [upd_ne (ntup c xs r)]; exact r
      rcases hc with rfl | hc
      · exact hbe
      · rintro rfl
        rcases he with z | z
        · exact nown c b hc z
        · rw [hc] at z; cases z; exact hb rfl
end

/-! ### kept unless tracked; of the frames at fs (the callers') the slots may change (an exception that passes writes there); of the records at ex (iterators) nothing is said -/
structure Un (fs ex : List Addr) (H H' : Hp) (h h' : Heap) : Prop where
  keep : ∀ b o, h.get? b = some o → H b = none → b ∉ fs → b ∉ ex → h'.get? b = some o
  slot : ∀ b o, h.get? b = some o → H b = none → b ∈ fs → b ∉ ex → ∃ sl, h'.get? b = some { o with slots := sl }
  free : ∀ b o, h.get? b = some o → H b = none → b ∉ ex → H' b = none
  there : ∀ b o, h.get? b = some o → b ∉ ex → ∃ o', h'.get? b = some o'
  tups : ∀ b xs, H b = some (.tup xs) → H' b = some (.tup xs)
  frzs : ∀ b o u, H b = some (.frz o u) → H' b = some (.frz o u)
  tbls : ∀ b ps, H b = some (.tbl ps) → ∃ more, H' b = some (.tbl (ps ++ more))
section
variable {fs fs' ex ex' : List Addr} {H H1 H2 : Hp} {h h1 h2 h' : Heap} {a x e : Addr} {o : HO}
theorem Un.any (u : Un fs ex H H1 h h1) {b : Addr} {ob : Obj} (q : h.get? b = some ob) (n : H b = none) (hx : b ∉ ex) : ∃ sl, h1.get? b = some { ob with slots := sl } := by
  by_cases hb : b ∈ fs
  · exact u.slot b ob q n hb hx
  · exact ⟨ob.slots, u.keep b ob q n hb hx⟩
theorem Un.trans (a : Un fs ex H H1 h h1) (b : Un fs ex H1 H2 h1 h2) : Un fs ex H H2 h h2 where
  keep := fun c ob q n hc hx => b.keep c ob (a.keep c ob q n hc hx) (a.free c ob q n hx) hc hx
  slot := fun c ob q n hc hx => by
    obtain ⟨sl, e1⟩ := a.slot c ob q n hc hx
    obtain ⟨sl', e2⟩ := b.slot c _ e1 (a.free c ob q n hx) hc hx
    exact ⟨sl', e2⟩
  free := fun c ob q n hx => by
    obtain ⟨o', e1⟩ := a.there c ob q hx
    exact b.free c o' e1 (a.free c ob q n hx) hx
  there := fun c ob q hx => by
    obtain ⟨o', e1⟩ := a.there c ob q hx
    exact b.there c o' e1 hx
  tups := fun c xs q => b.tups c xs (a.tups c xs q)
  frzs := fun c ob xs q => b.frzs c ob xs (a.frzs c ob xs q)
  tbls := fun c ps q => by
    obtain ⟨m1, e1⟩ := a.tbls c ps q
    obtain ⟨m2, e2⟩ := b.tbls c _ e1
    exact ⟨m1 ++ m2, by rw [e2, Array.append_assoc]⟩
theorem Un.kept (k : ∀ b u, h.get? b = some u → h'.get? b = some u) : Un fs ex H H h h' :=
  ⟨fun b ob q _ _ _ => k b ob q, fun b ob q _ _ _ => ⟨ob.slots, k b ob q⟩, fun _ _ _ n _ => n, fun b ob q _ => ⟨ob, k b ob q⟩, fun _ _ q => q, fun _ _ _ q => q, fun _ ps q => ⟨#[], by rw [q]; simp⟩⟩
theorem Un.refl : Un fs ex H H h h := Un.kept fun _ _ q => q
theorem Un.laid (k : ∀ b u, h.get? b = some u → h'.get? b = some u) (hp : h.objs.size ≤ a) (hn : H a = none) : Un fs ex H (upd H a o) h h' where
  keep := fun b u q _ _ _ => k b u q
  slot := fun b u q _ _ _ => ⟨u.slots, k b u q⟩
  free := fun b u q n _ => by rw [upd_ne (Nat.ne_of_lt (Nat.lt_of_lt_of_le (Heap.lt_size q) hp))]; exact n
  there := fun b u q _ => ⟨u, k b u q⟩
  tups := fun b xs q => by rw [upd_ne (ne_of_none q hn)]; exact q
  frzs := fun b u xs q => by rw [upd_ne (ne_of_none q hn)]; exact q
  tbls := fun b ps q => ⟨#[], by rw [upd_ne (ne_of_none q hn), q]; simp⟩
theorem Un.write (mu : Mut (H x)) (he : e = x ∨ H e = some (.own x)) (k : ∀ b u, b ≠ e → h.get? b = some u → h'.get? b = some u) (heo : ∃ u, h'.get? e = some u) : Un fs ex H (upd H x o) h h' := by
  have hx : ∀ b, H b = none → b ≠ x := fun b n z => by subst z; rw [n] at mu; exact mu
  have hb : ∀ b, H b = none → b ≠ e := fun b n z => by
    subst z
    rcases he with r | r
    · exact hx b n r
    · rw [n] at r; cases r
  have hm : ∀ b u, H b = some u → ¬ Mut (some u) → b ≠ x := fun b u q nm z => by subst z; rw [q] at mu; exact nm mu
  refine ⟨fun b u q n _ _ => k b u (hb b n) q, fun b u q n _ _ => ⟨u.slots, k b u (hb b n) q⟩, fun b u q n _ => by rw [upd_ne (hx b n)]; exact n, fun b u q _ => ?_,
    fun b xs q => by rw [upd_ne (hm b _ q fun z => z)]; exact q, fun b u xs q => by rw [upd_ne (hm b _ q fun z => z)]; exact q, fun b ps q => ⟨#[], by rw [upd_ne (hm b _ q fun z => z), q]; simp⟩⟩
  by_cases hbe : b = e
  · subst hbe; exact heo
  · exact ⟨u, k b u hbe q⟩
theorem Un.mono (u : Un fs ex H H1 h h1) (hs : ∀ b ∈ fs, b ∈ fs') (hx : ∀ b ∈ ex, b ∈ ex') : Un fs' ex' H H1 h h1 :=
  ⟨fun b ob q n hb he => u.keep b ob q n (fun z => hb (hs b z)) fun z => he (hx b z), fun _ _ q n _ he => u.any q n fun z => he (hx _ z), fun b ob q n he => u.free b ob q n fun z => he (hx b z), fun b ob q he => u.there b ob q fun z => he (hx b z), u.tups, u.frzs, u.tbls⟩
end

/-! ### the heap without what is tracked -/
def trk (h : Heap) (H : Hp) : List Addr := (List.range h.objs.size).filter fun a => (H a).isSome
def hidT (h : Heap) (H : Hp) : Heap := PySem.W.hideAll h (trk h H)
theorem hidT_size (h : Heap) (H : Hp) : (hidT h H).objs.size = h.objs.size := PySem.W.hideAll_size _ _
theorem hidT_get {h : Heap} {H : Hp} {b : Addr} {o : Obj} (e : h.get? b = some o) (n : H b = none) : (hidT h H).get? b = some o :=
  PySem.W.hideAll_get _ e fun hm => by
    have q : (H b).isSome = true := (List.mem_filter.mp hm).2
    rw [n] at q; simp at q
theorem of_hidT {h : Heap} {H : Hp} {b : Addr} {o : Obj} (e : (hidT h H).get? b = some o) : h.get? b = some o ∧ H b = none := by
  have e' : h.get? b = some o := PySem.W.of_hideAll (trk h H) e
  refine ⟨e', ?_⟩
  cases q : H b with
  | none => rfl
  | some x =>
    have hm : b ∈ trk h H := List.mem_filter.mpr ⟨List.mem_range.mpr (Heap.lt_size e'), by simp [q]⟩
    have z : (hidT h H).get? b = none := PySem.W.hideAll_none (trk h H) hm
    rw [z] at e; cases e

/-! ### OpenK's ledger, filled with every new object but one -/
def allNews (g h : Heap) (L : Addr) : List (Addr × Obj) := (List.range h.objs.size).filterMap fun a => if a = L ∨ (g.get? a).isSome = true then none else (h.get? a).map fun o => (a, o)
def rest (g h : Heap) (L d : Addr) : List (Addr × Obj) := (allNews g h L).filter fun p => decide (p.1 ≠ d)
end L2

namespace L2
open PySem PySem.Spec PyProof.Rows

/-- the module's facts, over the base: the heap at the law's entry without what is tracked there -/
structure Mod (K : PySem.W.Frag) (mg : Str → Option Value) (base : Heap) : Prop where
  kin : K.In base
  glob : base.Ns mainGlobals mg
  blt : ∃ mb, base.Ns builtinsNs mb ∧ ∀ x : Str, x ≠ "__name__" → mb x = bootBuiltins x
  nolimit : base.NoLimit

/-- the context: a def's body (or a comprehension's block) running. base: fixed through the whole law; s₀, H₀: the entry; outer: the frames whose slots others may change (a def's callers); stack: all frames that run;
   ex: iterators that were made ahead of the entry and are walked here (a comprehension's); fn: the names whose cells were made at the entry (a def: all; a comprehension's block: its own); calm: not within an except suite; pn: pins that every state bears; xe: what is wanted of an exception that leaves the code -/
structure Cx where
  prog : Program
  w : World
  K : PySem.W.Frag
  mg : Str → Option Value
  base : Heap
  A : Around
  N : List Str
  s₀ : Shared
  H₀ : Hp
  env : Env
  outer : List Env
  stack : List Env
  ex : List Addr
  fn : Str → Bool
  calm : Bool
  pn : List (Addr × Obj)
  xe : Value → Shared → Prop
/-- the callers' frames -/
def frs (l : List Env) : List Addr := l.filterMap (·.frame)
abbrev Cx.fs (X : Cx) : List Addr := frs X.outer

def Vis (sc : Scope) (x : Str) : Prop := sc.names.lookup x = some .local ∨ sc.names.lookup x = some .cell ∨ sc.names.lookup x = some .free
def Loc (sc : Scope) (x : Str) : Prop := sc.names.lookup x = some .local ∨ sc.names.lookup x = some .cell
def Look (env : Env) (h : Heap) (m : Str → Option Value) (x : Str) (u : Value) : Prop :=
  (env.kindOf x = some .local ∧ m x = some u) ∨ ((env.kindOf x = some .cell ∨ env.kindOf x = some .free) ∧ ∃ c, env.cells.lookup x = some c ∧ h.IsCell c (some u))

structure Cx.Ok (X : Cx) : Prop where
  mod : Mod X.K X.mg X.base
  kind : X.env.scope.kind = .function
  glob : X.env.globals = mainGlobals
  blt : X.env.builtins = builtinsNs
  above : X.s₀.heap.objs.size ≤ X.env.locals
  inj : ∀ x y c, X.env.cells.lookup x = some c → X.env.cells.lookup y = some c → x = y
  has : ∀ x, (X.env.kindOf x = some .cell ∨ X.env.kindOf x = some .free) → ∃ c, X.env.cells.lookup x = some c
  cab : ∀ x c, X.fn x = true → X.env.cells.lookup x = some c → X.s₀.heap.objs.size ≤ c
  hd : X.calm = true → X.A.handled = none
  frames : X.A.frames = some X.stack
  stk : X.stack = X.outer ∨ (X.stack = X.env :: X.outer ∧ X.env.frame = some X.env.locals)
  exf : ∀ b ∈ X.ex, b ≠ X.env.locals ∧ ∀ x c, X.env.cells.lookup x = some c → c ≠ b
  bs : ∀ b o, X.base.get? b = some o → X.s₀.heap.get? b = some o ∧ X.H₀ b = none
  bsz : X.base.objs.size ≤ X.s₀.heap.objs.size
  noex : ∀ b o, X.base.get? b = some o → b ∉ X.ex
  exfs : ∀ b ∈ X.ex, b ∉ X.fs
  funs : X.s₀.heap.FunFrames X.base X.outer
  frf : ∀ b ∈ X.fs, X.H₀ b = none

structure Inv (X : Cx) (pins : List (Addr × Obj)) (σ : List (Option V)) (H : Hp) (s : Shared) : Prop where
  ok : X.Ok
  os : s.os = X.s₀.os
  bare : AllBare s.gens
  base : Un X.fs X.ex X.H₀ H X.s₀.heap s.heap
  loc : ∃ m, s.heap.Ns X.env.locals m ∧ ∀ (i : Nat) (x : Str) (v : V), X.N[i]? = some x → σ[i]? = some (some v) → Vis X.env.scope x → ∃ u, RelV v u ∧ Look X.env s.heap m x u
  cell : ∀ x c, X.env.cells.lookup x = some c → ∃ v, s.heap.IsCell c v
  free : H X.env.locals = none
  freeC : ∀ x c, X.env.cells.lookup x = some c → H c = none
  pin : ∀ p ∈ X.pn ++ pins, s.heap.get? p.1 = some p.2 ∧ H p.1 = none ∧ p.1 ≠ X.env.locals ∧ p.1 ∉ X.fs ∧ ∀ v, p.2.data ≠ .cell v
  hok : HOk X.prog X.w H s.heap
  len : σ.length = X.N.length

section
variable {X : Cx} {pins : List (Addr × Obj)} {σ : List (Option V)} {H H' : Hp} {s : Shared} {h' : Heap}

theorem Cx.Ok.nofr (ok : X.Ok) {b : Addr} {o : Obj} (e : X.base.get? b = some o) : b ∉ X.fs := fun hb => by
  have := (ok.funs.mem hb).1
  rw [e] at this; cases this
theorem Inv.bs (I : Inv X pins σ H s) : ∀ b o, X.base.get? b = some o → s.heap.get? b = some o ∧ H b = none := fun b o e =>
  ⟨I.base.keep b o (I.ok.bs b o e).1 (I.ok.bs b o e).2 (I.ok.nofr e) (I.ok.noex b o e), I.base.free b o (I.ok.bs b o e).1 (I.ok.bs b o e).2 (I.ok.noex b o e)⟩
theorem Inv.bk (I : Inv X pins σ H s) : ∀ b o, X.base.get? b = some o → s.heap.get? b = some o := fun b o e => (I.bs b o e).1
theorem Inv.mod (I : Inv X pins σ H s) : Mod X.K X.mg X.base := I.ok.mod
theorem Inv.kIn (I : Inv X pins σ H s) : X.K.In s.heap := I.ok.mod.kin.keeps I.bk
theorem Inv.nolimit (I : Inv X pins σ H s) : s.heap.NoLimit := I.ok.mod.nolimit.keeps I.bk
/-- the frame over the base: for OpenK's rules (K.In X.base is I.mod.kin) -/
theorem Inv.fr (I : Inv X pins σ H s) : ∃ m, Fr X.base X.env.locals s.heap m :=
  let ⟨m, hn, _⟩ := I.loc
  ⟨m, hn, I.bk, Nat.le_trans I.ok.bsz I.ok.above⟩
theorem Inv.lt (I : Inv X pins σ H s) : X.env.locals < s.heap.objs.size := let ⟨_, hn, _⟩ := I.loc; hn.lt
theorem Inv.sz (I : Inv X pins σ H s) : X.s₀.heap.objs.size ≤ s.heap.objs.size := Nat.le_trans I.ok.above (Nat.le_of_lt I.lt)
theorem Inv.nofs (I : Inv X pins σ H s) {a : Addr} (h : s.heap.objs.size ≤ a) : a ∉ X.fs := fun hb => by
  obtain ⟨_, o, ho, _⟩ := I.ok.funs.mem hb
  exact absurd (Nat.lt_of_lt_of_le (Heap.lt_size ho) (Nat.le_trans I.sz h)) (Nat.lt_irrefl _)
theorem Inv.cne (I : Inv X pins σ H s) : ∀ x c, X.env.cells.lookup x = some c → c ≠ X.env.locals := fun x c e z => by
  obtain ⟨v, o, ho, hd⟩ := I.cell x c e
  obtain ⟨m, ⟨o', es, ep, ho', hd', _⟩, _⟩ := I.loc
  rw [z, ho'] at ho; cases ho; rw [hd'] at hd; cases hd
theorem Inv.funs (I : Inv X pins σ H s) : s.heap.FunFrames X.base X.outer := by
  have all : ∀ (l : List Env), (∀ b ∈ frs l, b ∈ X.fs) → X.s₀.heap.FunFrames X.base l → s.heap.FunFrames X.base l := by
    intro l
    induction l with
    | nil => intro _ _; trivial
    | cons env r ih =>
      intro hs hl
      obtain ⟨hk, ⟨L, o, hf, hn, ho, hd⟩, hr⟩ := hl
      have hL : L ∈ X.fs := hs L (by unfold frs; rw [List.filterMap_cons, hf]; exact List.mem_cons_self)
      obtain ⟨sl, e⟩ := I.base.slot L o ho (I.ok.frf L hL) hL fun z => I.ok.exfs L z hL
      exact ⟨hk, ⟨L, _, hf, hn, e, hd⟩, ih (fun b hb => hs b (by unfold frs; rw [List.filterMap_cons, hf]; exact List.mem_cons_of_mem _ hb)) hr⟩
  exact all X.outer (fun _ hb => hb) I.ok.funs

/-- the frames that run, for a call -/
theorem Inv.stack (I : Inv X pins σ H s) : s.heap.FunFrames X.base X.stack := by
  rcases I.ok.stk with e | ⟨e, hf⟩
  · rw [e]; exact I.funs
  · rw [e]
    obtain ⟨m, hn, _⟩ := I.loc
    refine .cons (by rw [I.ok.kind]; decide) hf hn ?_ I.funs
    exact Heap.get?_none_of_le (Nat.le_trans I.ok.bsz I.ok.above)
theorem Inv.stkSub (I : Inv X pins σ H s) : ∀ b ∈ frs X.stack, b ∈ X.env.locals :: X.fs := fun b hb => by
  rcases I.ok.stk with e | ⟨e, hf⟩
  · rw [e] at hb; exact List.mem_cons_of_mem _ hb
  · rw [e] at hb
    unfold frs at hb
    rw [List.filterMap_cons, hf] at hb
    exact hb
theorem Inv.stkFree (I : Inv X pins σ H s) : ∀ b ∈ frs X.stack, H b = none := fun b hb => by
  rcases List.mem_cons.mp (I.stkSub b hb) with e | hb
  · rw [e]; exact I.free
  · obtain ⟨_, o, ho, _⟩ := I.ok.funs.mem hb
    exact I.base.free b o ho (I.ok.frf b hb) fun z => I.ok.exfs b z hb

/-- THE STEP: the untracked objects but the frame and the records at ch are kept (the callers' frames up to slots), the frame's map is kept, the new abstract heap is held -/
theorem Inv.step {g' : Array GenState} {t' : Nat} {d' : Drawn} {ch : List Addr} (I : Inv X pins σ H s)
    (hch : ∀ b ∈ ch, (b ∈ X.ex ∨ X.s₀.heap.objs.size ≤ b) ∧ b ≠ X.env.locals ∧ (∀ x c, X.env.cells.lookup x = some c → c ≠ b) ∧ ∀ p ∈ X.pn ++ pins, p.1 ≠ b)
    (keep : ∀ b o, b ≠ X.env.locals → b ∉ X.fs → b ∉ ch → s.heap.get? b = some o → H b = none → h'.get? b = some o)
    (slot : ∀ b o, b ≠ X.env.locals → b ∈ X.fs → b ∉ ch → s.heap.get? b = some o → H b = none → ∃ sl, h'.get? b = some { o with slots := sl }) (free : ∀ b o, b ∉ ch → s.heap.get? b = some o → H b = none → H' b = none)
    (there : ∀ b o, b ∉ ch → s.heap.get? b = some o → ∃ o', h'.get? b = some o')
    (tups : ∀ b xs, H b = some (.tup xs) → H' b = some (.tup xs)) (frzs : ∀ b o u, H b = some (.frz o u) → H' b = some (.frz o u)) (tbls : ∀ b ps, H b = some (.tbl ps) → ∃ more, H' b = some (.tbl (ps ++ more)))
    (ns : ∀ m, s.heap.Ns X.env.locals m → h'.Ns X.env.locals m) (hok : HOk X.prog X.w H' h') (hg : AllBare g') :
    Inv X pins σ H' { s with heap := h', gens := g', drawn := d', toks := t' } := by
  have neL : ∀ b o, X.s₀.heap.get? b = some o → b ≠ X.env.locals := fun b o e => Nat.ne_of_lt (Nat.lt_of_lt_of_le (Heap.lt_size e) I.ok.above)
  have neC : ∀ b o, X.s₀.heap.get? b = some o → b ∉ X.ex → b ∉ ch := fun b o e hx hb => by
    rcases (hch b hb).1 with z | z
    · exact hx z
    · exact absurd (Nat.lt_of_lt_of_le (Heap.lt_size e) z) (Nat.lt_irrefl _)
  have cellK : ∀ x c, X.env.cells.lookup x = some c → ∀ v, s.heap.IsCell c v → h'.IsCell c v := fun x c e v ⟨o, ho, hd⟩ => by
    have nch : c ∉ ch := fun z => (hch c z).2.2.1 x c e rfl
    by_cases hc : c ∈ X.fs
    · obtain ⟨sl, q⟩ := slot c o (I.cne x c e) hc nch ho (I.freeC x c e)
      exact ⟨_, q, hd⟩
    · exact ⟨o, keep c o (I.cne x c e) hc nch ho (I.freeC x c e), hd⟩
  refine ⟨I.ok, I.os, hg, ⟨fun b o e n hb hx => ?_, fun b o e n hb hx => ?_, fun b o e n hx => ?_, fun b o e hx => ?_, fun b xs e => tups b xs (I.base.tups b xs e), fun b o xs e => frzs b o xs (I.base.frzs b o xs e), fun b ps e => ?_⟩, ?_, fun x c e => ?_, ?_, fun x c e => ?_, fun p hp => ?_, hok, I.len⟩
  · exact keep b o (neL b o e) hb (neC b o e hx) (I.base.keep b o e n hb hx) (I.base.free b o e n hx)
  · obtain ⟨sl, e1⟩ := I.base.slot b o e n hb hx
    obtain ⟨sl', e2⟩ := slot b _ (neL b o e) hb (neC b o e hx) e1 (I.base.free b o e n hx)
    exact ⟨sl', e2⟩
  · obtain ⟨o', e1⟩ := I.base.there b o e hx
    exact free b o' (neC b o e hx) e1 (I.base.free b o e n hx)
  · obtain ⟨o', e1⟩ := I.base.there b o e hx
    exact there b o' (neC b o e hx) e1
  · obtain ⟨m1, e1⟩ := I.base.tbls b ps e
    obtain ⟨m2, e2⟩ := tbls b _ e1
    exact ⟨m1 ++ m2, by rw [e2, Array.append_assoc]⟩
  · obtain ⟨m, hn, hl⟩ := I.loc
    refine ⟨m, ns m hn, fun i x v e1 e2 e3 => ?_⟩
    obtain ⟨u, r, l⟩ := hl i x v e1 e2 e3
    refine ⟨u, r, ?_⟩
    rcases l with l | ⟨k, c, e, z⟩
    · exact .inl l
    · exact .inr ⟨k, c, e, cellK x c e _ z⟩
  · obtain ⟨v, z⟩ := I.cell x c e
    exact ⟨v, cellK x c e v z⟩
  · obtain ⟨m, ⟨o, _, _, ho, _⟩, _⟩ := I.loc
    exact free _ o (fun z => (hch _ z).2.1 rfl) ho I.free
  · obtain ⟨v, o, ho, hd⟩ := I.cell x c e
    exact free c o (fun z => (hch c z).2.2.1 x c e rfl) ho (I.freeC x c e)
  · obtain ⟨e, n, ne, nf, d⟩ := I.pin p hp
    have nch : p.1 ∉ ch := fun z => (hch p.1 z).2.2.2 p hp rfl
    exact ⟨keep p.1 p.2 ne nf nch e n, free p.1 p.2 nch e n, ne, nf, d⟩
/-- .. where the frame's own object is kept too -/
theorem Inv.un {t' : Nat} (I : Inv X pins σ H s) (u : Un X.fs [] H H' s.heap h') (hok : HOk X.prog X.w H' h') : Inv X pins σ H' { s with heap := h', toks := t' } := by
  obtain ⟨m, ⟨o, es, ep, ho, r⟩, _⟩ := id I.loc
  obtain ⟨sl, hL⟩ := u.any ho I.free (by simp)
  exact I.step (g' := s.gens) (d' := s.drawn) (ch := []) (fun _ z => nomatch z) (fun b o _ hb _ e n => u.keep b o e n hb (by simp)) (fun b o _ hb _ e n => u.slot b o e n hb (by simp)) (fun b o _ e n => u.free b o e n (by simp)) (fun b o _ e => u.there b o e (by simp)) u.tups u.frzs u.tbls (fun m' hm => by
    obtain ⟨o', es', ep', ho', r'⟩ := hm
    rw [ho] at ho'; cases ho'
    exact ⟨_, es', ep', hL, r'⟩) hok I.bare
/-- behind a call (or a comprehension's block): the slots of this frame may have changed too, the records at ch may have turned -/
theorem Inv.call {g' : Array GenState} {t' : Nat} {d' : Drawn} {ch : List Addr} (I : Inv X pins σ H s) (u : Un (frs X.stack) ch H H' s.heap h') (hok : HOk X.prog X.w H' h') (hg : AllBare g')
    (hch : ∀ b ∈ ch, (b ∈ X.ex ∨ X.s₀.heap.objs.size ≤ b) ∧ b ≠ X.env.locals ∧ (∀ x c, X.env.cells.lookup x = some c → c ≠ b) ∧ ∀ p ∈ X.pn ++ pins, p.1 ≠ b) :
    Inv X pins σ H' { s with heap := h', gens := g', drawn := d', toks := t' } := by
  obtain ⟨m, ⟨o, es, ep, ho, r⟩, _⟩ := id I.loc
  obtain ⟨sl, hL⟩ := u.any ho I.free fun z => (hch _ z).2.1 rfl
  exact I.step (ch := ch) hch (fun b o hL hb hc e n => u.keep b o e n (fun z => (List.mem_cons.mp (I.stkSub b z)).elim hL hb) hc) (fun b o _ _ hc e n => u.any e n hc) (fun b o hc e n => u.free b o e n hc) (fun b o hc e => u.there b o e hc) u.tups u.frzs u.tbls (fun m' hm => by
    obtain ⟨o', es', ep', ho', r'⟩ := hm
    rw [ho] at ho'; cases ho'
    exact ⟨_, es', ep', hL, r'⟩) hok hg
/-- an untracked record of ours (an iterator) has turned -/
theorem Inv.turned {t' : Nat} {it : Addr} (I : Inv X pins σ H s) (k : ∀ b o, b ≠ it → s.heap.get? b = some o → h'.get? b = some o) (hn : H it = none) (hL : it ≠ X.env.locals)
    (h1 : it ∈ X.ex ∨ X.s₀.heap.objs.size ≤ it) (h2 : ∀ x c, X.env.cells.lookup x = some c → c ≠ it) (h3 : ∀ p ∈ X.pn ++ pins, p.1 ≠ it) : Inv X pins σ H { s with heap := h', toks := t' } := by
  have nit : ∀ b u, H b = some u → b ≠ it := fun b u e z => by rw [z, hn] at e; cases e
  refine I.step (g' := s.gens) (d' := s.drawn) (ch := [it]) (fun b hb => ?_) (fun b o _ _ hc e _ => k b o (fun z => hc (by simp [z])) e) (fun b o _ _ hc e _ => ⟨o.slots, k b o (fun z => hc (by simp [z])) e⟩) (fun _ _ _ _ n => n)
    (fun b o hc e => ⟨o, k b o (fun z => hc (by simp [z])) e⟩) (fun _ _ e => e) (fun _ _ _ e => e) (fun b ps e => ⟨#[], by rw [e]; simp⟩) (fun m hm => ?_) (fun b u e => ?_) I.bare
  · have e : b = it := by simpa using hb
    subst e
    exact ⟨h1, hL, h2, h3⟩
  · obtain ⟨o, es, ep, ho, r⟩ := hm
    exact ⟨o, es, ep, k _ o (Ne.symm hL) ho, r⟩
  · refine (I.hok b u e).stay (fun c v hc q => k c v ?_ q) (fun _ q => q) fun _ _ q => q
    rcases hc with z | z
    · rw [z]; exact nit b u e
    · exact nit c _ z
theorem Inv.tok (I : Inv X pins σ H s) (t : Nat) : Inv X pins σ H { s with toks := t } := I.un (h' := s.heap) (t' := t) Un.refl I.hok
/-- all objects kept -/
theorem Inv.kept {t' : Nat} (I : Inv X pins σ H s) (k : ∀ b u, s.heap.get? b = some u → h'.get? b = some u) : Inv X pins σ H { s with heap := h', toks := t' } := I.un (Un.kept k) (I.hok.kept k)
/-- a new object laid and tracked -/
theorem Inv.laid {a : Addr} {o : HO} {t' : Nat} (I : Inv X pins σ H s) (k : ∀ b u, s.heap.get? b = some u → h'.get? b = some u) (hp : s.heap.objs.size ≤ a) (new : ObjOk X.prog X.w (upd H a o) h' a o) :
    Inv X pins σ (upd H a o) { s with heap := h', toks := t' } := I.un (Un.laid k hp (I.hok.fresh hp)) (I.hok.laid k hp new)
/-- an object written -/
theorem Inv.write {x e : Addr} {o : HO} {t' : Nat} (I : Inv X pins σ H s) (mu : Mut (H x)) (he : e = x ∨ H e = some (.own x)) (k : ∀ b u, b ≠ e → s.heap.get? b = some u → h'.get? b = some u) (heo : ∃ u, h'.get? e = some u)
    (new : ObjOk X.prog X.w (upd H x o) h' x o) : Inv X pins σ (upd H x o) { s with heap := h', toks := t' } := I.un (Un.write mu he k heo) (I.hok.write mu he k heo new)
theorem Inv.pins_of {pins' : List (Addr × Obj)} (I : Inv X pins σ H s) (h : ∀ p ∈ pins', s.heap.get? p.1 = some p.2 ∧ H p.1 = none ∧ p.1 ≠ X.env.locals ∧ p.1 ∉ X.fs ∧ ∀ v, p.2.data ≠ .cell v) : Inv X pins' σ H s :=
  ⟨I.ok, I.os, I.bare, I.base, I.loc, I.cell, I.free, I.freeC, fun p hp => (List.mem_append.mp hp).elim (fun z => I.pin p (List.mem_append_left _ z)) (h p), I.hok, I.len⟩

theorem nodup_ix {N : List Str} (hN : N.Nodup) {i j : Nat} {x : Str} (a : N[i]? = some x) (b : N[j]? = some x) : i = j := by
  obtain ⟨h1, e1⟩ := List.getElem?_eq_some_iff.mp a
  obtain ⟨h2, e2⟩ := List.getElem?_eq_some_iff.mp b
  exact (List.getElem_inj hN).mp (e1.trans e2.symm)

/-- a name is stored; what changed -/
theorem store_ok2 {M : Model} {A : Around} {E : Value → Shared → Prop} {i : Nat} {x : Str} {v : V} {u : Value} {Q : Unit → Shared → Prop} (I : Inv X pins σ H s) (hN : X.N.Nodup) (hi : X.N[i]? = some x) (hx : Loc X.env.scope x) (r : RelV v u)
    (h : ∀ s', Inv X pins (σ.set i (some v)) H s' → (∃ a, Heap.SameBut a s.heap s'.heap ∧ (a = X.env.locals ∨ X.env.cells.lookup x = some a)) → Q () s') (hf : X.fn x = true ∨ X.env.scope.names.lookup x = some .local := by first | exact .inl rfl | exact .inr rfl | assumption) : wpAny M A (storeName X.env x u) Q E s := by
  obtain ⟨m, hn, hl⟩ := id I.loc
  have hcls : (X.env.scope.kind == .class || (X.env.scope.kind == .module && X.env.locals != X.env.globals)) = false := by rw [I.ok.kind]; rfl
  have hiσ : i < σ.length := by rw [I.len]; exact (List.getElem?_eq_some_iff.mp hi).1
  have cne := I.cne
  have tracked : ∀ {a : Addr} {h' : Heap}, (∃ o, s.heap.get? a = some o ∧ H a = none) → Heap.SameBut a s.heap h' → HOk X.prog X.w H h' := fun {a h'} ha hs b ob e => by
    obtain ⟨_, _, hfree⟩ := ha
    refine (I.hok b ob e).stay (fun c w' hc q => (hs.2 c ?_).trans q) (fun _ q => q) fun _ _ q => q
    rintro rfl
    rcases hc with rfl | hc
    · rw [hfree] at e; cases e
    · rw [hfree] at hc; cases hc
  rcases hx with hk | hk
  · refine wpAny_storeName_local hk hn (fun h' hn' hs => ?_) hcls
    obtain ⟨oL, _, _, hoL, _⟩ := id hn
    refine h _ ⟨I.ok, I.os, I.bare, ⟨fun b o e n hb hx => ?_, fun b o e n hb hx => ?_, I.base.free, fun b o e hx => ?_, I.base.tups, I.base.frzs, I.base.tbls⟩, ⟨_, hn', fun j y v' e1 e2 e3 => ?_⟩, fun y c e => ?_, I.free, I.freeC, fun p hp => ?_, tracked ⟨oL, hoL, I.free⟩ hs, by simpa using I.len⟩ ⟨_, hs, .inl rfl⟩
    · exact (hs.2 b (Nat.ne_of_lt (Nat.lt_of_lt_of_le (Heap.lt_size e) I.ok.above))).trans (I.base.keep b o e n hb hx)
    · obtain ⟨sl, e1⟩ := I.base.slot b o e n hb hx
      exact ⟨sl, (hs.2 b (Nat.ne_of_lt (Nat.lt_of_lt_of_le (Heap.lt_size e) I.ok.above))).trans e1⟩
    · obtain ⟨o', e1⟩ := I.base.there b o e hx
      exact ⟨o', (hs.2 b (Nat.ne_of_lt (Nat.lt_of_lt_of_le (Heap.lt_size e) I.ok.above))).trans e1⟩
    · by_cases hj : j = i
      · subst hj
        rw [hi] at e1; cases e1
        rw [List.getElem?_set_self hiσ] at e2
        cases e2
        exact ⟨u, r, .inl ⟨hk, by simp⟩⟩
      · rw [List.getElem?_set_ne (Ne.symm hj)] at e2
        obtain ⟨u', r', q⟩ := hl j y v' e1 e2 e3
        refine ⟨u', r', ?_⟩
        rcases q with ⟨k, e⟩ | ⟨k, c, e, z⟩
        · refine .inl ⟨k, ?_⟩
          have : y ≠ x := fun e => hj (nodup_ix hN e1 (e ▸ hi))
          simp [this, e]
        · exact .inr ⟨k, c, e, z.sameBut hs (cne y c e)⟩
    · obtain ⟨w', z⟩ := I.cell y c e
      exact ⟨w', z.sameBut hs (cne y c e)⟩
    · obtain ⟨e, n, ne, nf, d⟩ := I.pin p hp
      exact ⟨(hs.2 p.1 ne).trans e, n, ne, nf, d⟩
  · have hfn : X.fn x = true := by
      rcases hf with z | z
      · exact z
      · rw [z] at hk; cases hk
    obtain ⟨c, hc⟩ := I.ok.has x (.inl hk)
    obtain ⟨w', z⟩ := I.cell x c hc
    refine wpAny_storeName_cell I.ok.kind hk hc z (fun h' hc' hs => ?_)
    obtain ⟨oc, hoc, hocd⟩ := id z
    refine h { s with heap := h' } ⟨I.ok, I.os, I.bare, ⟨fun b o e n hb hx => ?_, fun b o e n hb hx => ?_, I.base.free, fun b o e hx => ?_, I.base.tups, I.base.frzs, I.base.tbls⟩, ⟨m, hn.sameBut hs (Ne.symm (cne x c hc)), fun j y v' e1 e2 e3 => ?_⟩, fun y c' e => ?_, I.free, I.freeC, fun p hp => ?_, tracked ⟨oc, hoc, I.freeC x c hc⟩ hs, by simpa using I.len⟩ ⟨c, hs, .inr hc⟩
    · exact (hs.2 b (Nat.ne_of_lt (Nat.lt_of_lt_of_le (Heap.lt_size e) (I.ok.cab x c hfn hc)))).trans (I.base.keep b o e n hb hx)
    · obtain ⟨sl, e1⟩ := I.base.slot b o e n hb hx
      exact ⟨sl, (hs.2 b (Nat.ne_of_lt (Nat.lt_of_lt_of_le (Heap.lt_size e) (I.ok.cab x c hfn hc)))).trans e1⟩
    · obtain ⟨o', e1⟩ := I.base.there b o e hx
      exact ⟨o', (hs.2 b (Nat.ne_of_lt (Nat.lt_of_lt_of_le (Heap.lt_size e) (I.ok.cab x c hfn hc)))).trans e1⟩
    · by_cases hj : j = i
      · subst hj
        rw [hi] at e1; cases e1
        rw [List.getElem?_set_self hiσ] at e2
        cases e2
        exact ⟨u, r, .inr ⟨.inl hk, c, hc, hc'⟩⟩
      · rw [List.getElem?_set_ne (Ne.symm hj)] at e2
        obtain ⟨u', r', q⟩ := hl j y v' e1 e2 e3
        refine ⟨u', r', ?_⟩
        rcases q with q | ⟨k, c', e, z'⟩
        · exact .inl q
        · refine .inr ⟨k, c', e, z'.sameBut hs ?_⟩
          rintro rfl
          exact hj (nodup_ix hN e1 (I.ok.inj _ _ _ e hc ▸ hi))
    · by_cases hcc : c' = c
      · subst hcc; exact ⟨_, hc'⟩
      · obtain ⟨w2, z2⟩ := I.cell y c' e
        exact ⟨w2, z2.sameBut hs hcc⟩
    · obtain ⟨e, n, ne, nf, d⟩ := I.pin p hp
      refine ⟨(hs.2 p.1 ?_).trans e, n, ne, nf, d⟩
      intro q
      rw [q, hoc] at e
      have q' : oc = p.2 := Option.some.inj e
      exact d w' (by rw [← q']; exact hocd)
theorem store_ok {M : Model} {A : Around} {E : Value → Shared → Prop} {i : Nat} {x : Str} {v : V} {u : Value} {Q : Unit → Shared → Prop} (I : Inv X pins σ H s) (hN : X.N.Nodup) (hi : X.N[i]? = some x) (hx : Loc X.env.scope x) (r : RelV v u)
    (h : ∀ s', Inv X pins (σ.set i (some v)) H s' → Q () s') (hf : X.fn x = true ∨ X.env.scope.names.lookup x = some .local := by first | exact .inl rfl | exact .inr rfl | assumption) : wpAny M A (storeName X.env x u) Q E s :=
  store_ok2 I hN hi hx r (fun s' I' _ => h s' I') hf
/-- behind a call or a block, the state as it is -/
theorem Inv.call' {s' : Shared} {ch : List Addr} (I : Inv X pins σ H s) (ho : s'.os = s.os) (u : Un (frs X.stack) ch H H' s.heap s'.heap) (hok : HOk X.prog X.w H' s'.heap) (hg : AllBare s'.gens)
    (hch : ∀ b ∈ ch, (b ∈ X.ex ∨ X.s₀.heap.objs.size ≤ b) ∧ b ≠ X.env.locals ∧ (∀ x c, X.env.cells.lookup x = some c → c ≠ b) ∧ ∀ p ∈ X.pn ++ pins, p.1 ≠ b) : Inv X pins σ H' s' := by
  obtain ⟨h', g', d', t', o'⟩ := s'
  have e : o' = s.os := ho
  subst e
  exact I.call (g' := g') (t' := t') (d' := d') u hok hg hch
end

/-! ### the judgements -/
/-- an exception: its class, its own dict's address (where it has one), the abstract heap behind it -/
abbrev XK := Value → Option Addr → Hp → Prop
abbrev St := List (Option V)
abbrev VK := V → Hp → Prop
/-- an expression's reading; a test's; an argument list's -/
abbrev TE := St → Hp → VK → Prop
abbrev TT := St → Hp → (Bool → Hp → Prop) → Prop
abbrev TA := St → Hp → (List V → Hp → Prop) → Prop
/-- what is wanted behind a statement -/
structure Ends where
  nx : St → Hp → Prop
  rt : VK
  bk : St → Hp → Prop := fun _ _ => False
  ct : St → Hp → Prop := fun _ _ => False
abbrev TS := Ends → St → Hp → Prop

def EP (X : Cx) (pins : List (Addr × Obj)) (σ : St) (Q : VK) (u : Value) (s' : Shared) : Prop := ∃ v H', Inv X pins σ H' s' ∧ RelV v u ∧ Q v H'
def TP (X : Cx) (pins : List (Addr × Obj)) (σ : St) (Q : Bool → Hp → Prop) (b : Bool) (s' : Shared) : Prop := ∃ H', Inv X pins σ H' s' ∧ Q b H'
def AP (X : Cx) (pins : List (Addr × Obj)) (σ : St) (Q : List V → Hp → Prop) (us : List Value) (s' : Shared) : Prop := ∃ vs H', Inv X pins σ H' s' ∧ Vals vs us ∧ Q vs H'
def SP (X : Cx) (pins : List (Addr × Obj)) (D : Ends) (f : Flow) (s' : Shared) : Prop :=
  match f with
  | .next => ∃ σ' H', Inv X pins σ' H' s' ∧ D.nx σ' H'
  | .brk => ∃ σ' H', Inv X pins σ' H' s' ∧ D.bk σ' H'
  | .cont => ∃ σ' H', Inv X pins σ' H' s' ∧ D.ct σ' H'
  | .ret u => ∃ v σ' H', Inv X pins σ' H' s' ∧ RelV v u ∧ D.rt v H'

def PE (X : Cx) (e : Expr) (t : TE) : Prop :=
  ∀ (pins : List (Addr × Obj)) (s : Shared) (σ : St) (H : Hp) (Q : VK), Inv X pins σ H s → t σ H Q → wpAny (model X.prog X.w) X.A (eval e X.env) (EP X pins σ Q) X.xe s
def PT (X : Cx) (e : Expr) (t : TT) : Prop :=
  ∀ (pins : List (Addr × Obj)) (s : Shared) (σ : St) (H : Hp) (Q : Bool → Hp → Prop), Inv X pins σ H s → t σ H Q → wpAny (model X.prog X.w) X.A (isTrue e X.env (eval e X.env)) (TP X pins σ Q) X.xe s
/-- a test whatever its 'whole' is (and, or) -/
def PW (X : Cx) (e : Expr) (t : TT) : Prop :=
  ∀ (whole : Sem Value) (pins : List (Addr × Obj)) (s : Shared) (σ : St) (H : Hp) (Q : Bool → Hp → Prop), Inv X pins σ H s → t σ H Q → wpAny (model X.prog X.w) X.A (isTrue e X.env whole) (TP X pins σ Q) X.xe s
theorem PW.pt {X : Cx} {e : Expr} {t : TT} (h : PW X e t) : PT X e t := h _
/-- an argument list (no star), from the left -/
def PA (X : Cx) (es : List Expr) (t : TA) : Prop :=
  ∀ (pos : Pos) (pins : List (Addr × Obj)) (s : Shared) (σ : St) (H : Hp) (Q : List V → Hp → Prop), Inv X pins σ H s → t σ H Q → wpAny (model X.prog X.w) X.A (spliced (backTo pos (starEach es X.env))) (AP X pins σ Q) X.xe s
def PS (X : Cx) (st : Stmt) (t : TS) : Prop :=
  ∀ (pins : List (Addr × Obj)) (s : Shared) (σ : St) (H : Hp) (D : Ends), Inv X pins σ H s → t D σ H → wpAny (model X.prog X.w) X.A (exec st X.env) (SP X pins D) X.xe s
def PSs (X : Cx) (st : List Stmt) (t : TS) : Prop :=
  ∀ (pins : List (Addr × Obj)) (s : Shared) (σ : St) (H : Hp) (D : Ends), Inv X pins σ H s → t D σ H → wpAny (model X.prog X.w) X.A (execs st X.env) (SP X pins D) X.xe s
/-- weaken the end -/
theorem thn {α : Type} {t : Sem α} {Q Q' : α → Shared → Prop} {M : Model} {A : Around} {E : Value → Shared → Prop} {s : Shared} (h : wpAny M A t Q E s) (hQ : ∀ a s, Q a s → Q' a s) : wpAny M A t Q' E s := wpAny_mono h hQ fun _ _ x => x
end L2

namespace L2
open PySem PySem.Spec PyProof.Rows
section
variable {X : Cx}

/-! ### names and constants -/
def tVar (i : Nat) : TE := fun σ H Q => ∃ v, σ[i]? = some (some v) ∧ Q v H
def tC (v : V) : TE := fun _ H Q => Q v H
theorem pe_var {i : Nat} {x : Str} {pos : Pos} (hN : X.N[i]? = some x) (hv : Vis X.env.scope x) (hd : (x == ("__debug__" : Str)) = false := by decide) (hcd : (x == ("__classdict__" : Str)) = false := by decide) : PE X (.Name x pos) (tVar i) := by
  intro pins s σ H Q I h
  obtain ⟨v, e, h⟩ := h
  obtain ⟨m, hn, hl⟩ := I.loc
  obtain ⟨u, r, l⟩ := hl i x v hN e hv
  have fin : EP X pins σ Q u s := ⟨v, H, I, r, h⟩
  rcases l with ⟨hk, hm⟩ | ⟨hk, c, hc, hcell⟩
  · exact wpAny_Name (wpAny_loadName_local I.ok.kind hk hn hm fin) hd
  · rcases hk with hk | hk
    · exact wpAny_Name (wpAny_loadName_cell I.ok.kind hk hc hcell fin) hd
    · exact wpAny_Name (wpAny_loadName_free I.ok.kind hk hc hcell fin hcd) hd
theorem pe_int {i j pos} : PE X (.Constant (.int i) j pos) (tC (.int i)) := fun _ _ _ H _ I h => wpAny_Constant_int ⟨.int i, H, I.tok _, ⟨_, rfl⟩, h⟩
theorem pe_bl {b j pos} : PE X (.Constant (.bool b) j pos) (tC (.bl b)) := fun _ _ _ H _ I h => Constant_bool ⟨.bl b, H, I, rfl, h⟩
theorem pe_non {j pos} : PE X (.Constant .none j pos) (tC .non) := fun _ _ _ H _ I h => Constant_none ⟨.non, H, I, rfl, h⟩
theorem pe_str {x j pos} : PE X (.Constant (.str x) j pos) (tC (.str x)) := fun _ _ _ H _ I h => Calls.Constant_str ⟨.str x, H, I.tok _, ⟨_, rfl⟩, h⟩

/-- a global name of the def -/
def Gl (X : Cx) (x : Str) : Prop := X.env.kindOf x = some .globalImplicit
theorem ld_glob {E : Value → Shared → Prop} {pins : List (Addr × Obj)} {s : Shared} {σ : St} {H : Hp} {x : Str} {u : Value} {pos : Pos} {Q : Value → Shared → Prop} (I : Inv X pins σ H s) (hg : Gl X x) (hm : X.mg x = some u) (h : Q u s)
    (hd : (x == ("__debug__" : Str)) = false := by decide) : wpAny (model X.prog X.w) X.A (eval (.Name x pos) X.env) Q E s :=
  Calls.Name_function_global I.ok.kind hg (Calls.loadGlobal_global (by rw [I.ok.glob]; exact I.mod.glob.keeps I.bk) hm h) hd
theorem ld_blt {E : Value → Shared → Prop} {pins : List (Addr × Obj)} {s : Shared} {σ : St} {H : Hp} {x : Str} {u : Value} {pos : Pos} {Q : Value → Shared → Prop} (I : Inv X pins σ H s) (hg : Gl X x) (hm : X.mg x = none) (hv : bootBuiltins x = some u) (h : Q u s)
    (hn : x ≠ "__name__" := by decide) (hd : (x == ("__debug__" : Str)) = false := by decide) : wpAny (model X.prog X.w) X.A (eval (.Name x pos) X.env) Q E s := by
  obtain ⟨mb, h1, h2⟩ := I.mod.blt
  exact Calls.Name_function_global I.ok.kind hg (Calls.loadGlobal_builtin (by rw [I.ok.glob]; exact I.mod.glob.keeps I.bk) hm (by rw [I.ok.blt]; exact h1.keeps I.bk) ((h2 x hn).trans hv) h) hd
/-- a module's constant, a class, a function, as a value -/
theorem pe_glob {x : Str} {v : V} {u : Value} {pos : Pos} (hg : Gl X x) (hm : X.mg x = some u) (r : RelV v u) (hd : (x == ("__debug__" : Str)) = false := by decide) : PE X (.Name x pos) (tC v) :=
  fun _ _ _ H _ I h => ld_glob I hg hm ⟨v, H, I, r, h⟩ hd
theorem pe_bltn {x : Str} {v : V} {u : Value} {pos : Pos} (hg : Gl X x) (hm : X.mg x = none) (hv : bootBuiltins x = some u) (r : RelV v u) (hn : x ≠ "__name__" := by decide) (hd : (x == ("__debug__" : Str)) = false := by decide) : PE X (.Name x pos) (tC v) :=
  fun _ _ _ H _ I h => ld_blt I hg hm hv ⟨v, H, I, r, h⟩ hn hd

variable {a b : Expr} {ta tb : TE} {pos : Pos}
/-- a comparison as a value, as a test -/
def tB (t : TE) : TT := fun σ H Q => t σ H fun x H1 => ∃ c, x = .bl c ∧ Q c H1
/-- an expression whose value is a bool, as a test -/
theorem pt_val {e : Expr} {t : TE} (h : PE X e t) (he : ∀ whole, isTrue e X.env whole = (do let v ← whole; standAt e.pos; holding [v] (truthy v)) := by intro _; rfl) : PT X e (tB t) := by
  intro pins s σ H Q I hw
  refine isTrue_plain (thn (h pins s σ H _ I hw) fun v s1 ⟨x, H1, I1, r1, q1⟩ => ?_) (he _)
  obtain ⟨d, rfl, q⟩ := q1
  cases r1
  exact wpAny_truthy_bool ⟨H1, I1, q⟩

/-! ### and, or, not -/
variable {tA tB' : TT} {rest : List Expr}
def tAnd (t u : TT) : TT := fun σ H Q => t σ H fun c H1 => if c = true then u σ H1 Q else Q false H1
def tOr (t u : TT) : TT := fun σ H Q => t σ H fun c H1 => if c = true then Q true H1 else u σ H1 Q
def tNot (t : TT) : TT := fun σ H Q => t σ H fun c H1 => Q (!c) H1
theorem pw_and1 (ha : PT X a tA) : PW X (.BoolOp .And [a] pos) tA := by
  intro wh pins s σ H Q I h
  refine isTrue_and (thn (ha pins s σ H Q I h) fun c s1 e => ?_)
  cases c with
  | true => exact isTrue_and_nil e
  | false => exact e
theorem pw_or1 (ha : PT X a tA) : PW X (.BoolOp .Or [a] pos) tA := by
  intro wh pins s σ H Q I h
  refine isTrue_or (thn (ha pins s σ H Q I h) fun c s1 e => ?_)
  cases c with
  | false => exact isTrue_or_nil e
  | true => exact e
theorem pw_and (ha : PT X a tA) (hb : PW X (.BoolOp .And (b :: rest) pos) tB') : PW X (.BoolOp .And (a :: b :: rest) pos) (tAnd tA tB') := by
  intro wh pins s σ H Q I h
  refine isTrue_and (thn (ha pins s σ H _ I h) fun c s1 ⟨H1, I1, q1⟩ => ?_)
  cases c with
  | true => exact hb wh pins s1 σ H1 Q I1 q1
  | false => exact ⟨H1, I1, q1⟩
theorem pw_or (ha : PT X a tA) (hb : PW X (.BoolOp .Or (b :: rest) pos) tB') : PW X (.BoolOp .Or (a :: b :: rest) pos) (tOr tA tB') := by
  intro wh pins s σ H Q I h
  refine isTrue_or (thn (ha pins s σ H _ I h) fun c s1 ⟨H1, I1, q1⟩ => ?_)
  cases c with
  | true => exact ⟨H1, I1, q1⟩
  | false => exact hb wh pins s1 σ H1 Q I1 q1
theorem pt_not (ha : PT X a tA) : PT X (.UnaryOp .Not a pos) (tNot tA) := by
  intro pins s σ H Q I h
  exact isTrue_not (ha pins s σ H (fun c H1 => Q (!c) H1) I h)
/-- .. as values (bools) -/
def tAndV (ta tb : TE) : TE := fun σ H Q => ta σ H fun x H1 => ∃ c, x = .bl c ∧ if c = true then tb σ H1 Q else Q (.bl false) H1
def tOrV (ta tb : TE) : TE := fun σ H Q => ta σ H fun x H1 => ∃ c, x = .bl c ∧ if c = true then Q (.bl true) H1 else tb σ H1 Q
def tNotV (ta : TE) : TE := fun σ H Q => ta σ H fun x H1 => ∃ c, x = .bl c ∧ Q (.bl (!c)) H1
theorem pe_one {op} {t : TE} (h : PE X a t) : PE X (.BoolOp op [a] pos) t := fun pins s σ H Q I hw => BoolOp_one (h pins s σ H Q I hw)
theorem pe_and (ha : PE X a ta) (hb : PE X (.BoolOp .And (b :: rest) pos) tb) : PE X (.BoolOp .And (a :: b :: rest) pos) (tAndV ta tb) := by
  intro pins s σ H Q I h
  refine BoolOp_and (thn (ha pins s σ H _ I h) fun v s1 ⟨x, H1, I1, r1, q1⟩ => ?_)
  obtain ⟨c, rfl, q1⟩ := q1
  cases r1
  refine wpAny_truthy_bool ?_
  cases c with
  | true => exact hb pins s1 σ H1 Q I1 q1
  | false => exact ⟨.bl false, H1, I1, rfl, q1⟩
theorem pe_not (ha : PE X a ta) : PE X (.UnaryOp .Not a pos) (tNotV ta) := by
  intro pins s σ H Q I h
  refine UnaryOp_ (thn (ha pins s σ H _ I h) fun v s1 ⟨x, H1, I1, r1, q1⟩ => ?_)
  obtain ⟨c, rfl, q1⟩ := q1
  cases r1
  exact not_of (wpAny_truthy_bool ⟨.bl (!c), H1, I1, rfl, q1⟩)
/-- a if t else b -/
def tIf (t : TT) (ta tb : TE) : TE := fun σ H Q => t σ H fun c H1 => if c = true then ta σ H1 Q else tb σ H1 Q
theorem pe_ifExp {c : Expr} (hc : PT X c tA) (ha : PE X a ta) (hb : PE X b tb) : PE X (.IfExp c a b pos) (tIf tA ta tb) := by
  intro pins s σ H Q I h
  refine wpAny_IfExp (thn (hc pins s σ H _ I h) fun d s1 ⟨H1, I1, q1⟩ => ?_)
  cases d with
  | true => exact ha pins s1 σ H1 Q I1 q1
  | false => exact hb pins s1 σ H1 Q I1 q1
end
end L2

namespace L2
open PySem PySem.Spec PyProof.Rows

/-! ### a list, a tuple that is read: tracked, frozen, or an object of the module -/
def SqL (K : PySem.W.Frag) (H : Hp) (a : Addr) (xs : List V) : Prop :=
  Rd H a (.lst xs) ∨
    ∃ (o : Obj) (its : Array Value) (n : Nat), K.lookup a = some o ∧ o.cls = .type "list" ∧ o.dict = none ∧ o.data = .seq its n ∧ its.size ≤ sizeLine ∧ Vals xs its.toList
def SqT (K : PySem.W.Frag) (H : Hp) (a : Addr) (xs : List V) : Prop :=
  Rd H a (.tup xs) ∨
    ∃ (o : Obj) (its : Array Value) (n : Nat), K.lookup a = some o ∧ o.cls = .type "tuple" ∧ o.data = .seq its n ∧ its.size ≤ sizeLine ∧ Vals xs its.toList
def absV : Value → Option V
  | .none => some .non
  | .bool b => some (.bl b)
  | .int i _ => some (.int i)
  | .str x _ => some (.str x)
  | .bytes b _ => some (.byt b)
  | .float b _ => some (.flt b)
  | .ref a => some (.ref a)
  | .type n => some (.ty n)
  | _ => none
theorem RelV.abs {x : V} {u : Value} (r : RelV x u) : absV u = some x := by
  cases x with
  | non => cases r; rfl
  | bl _ => cases r; rfl
  | int _ => obtain ⟨t, rfl⟩ := r; rfl
  | str _ => obtain ⟨t, rfl⟩ := r; rfl
  | byt _ => obtain ⟨t, rfl⟩ := r; rfl
  | flt _ => obtain ⟨t, rfl⟩ := r; rfl
  | ref _ => cases r; rfl
  | ty _ => cases r; rfl
theorem RelV.inj {x y : V} {u : Value} (r : RelV x u) (q : RelV y u) : x = y := Option.some.inj (r.abs.symm.trans q.abs)
theorem Vals.inj : ∀ {xs ys : List V} {us : List Value}, Vals xs us → Vals ys us → xs = ys
  | _, _, _, .nil, .nil => rfl
  | _, _, _, .cons r t, .cons r' t' => by rw [r.inj r', Vals.inj t t']
section
variable {X : Cx} {pins : List (Addr × Obj)} {σ : St} {H : Hp} {s : Shared} {a : Addr} {xs ys : List V}
theorem SqL.of {K : PySem.W.Frag} (h : H a = some (.lst xs)) : SqL K H a xs := .inl (.inl h)
theorem SqT.of {K : PySem.W.Frag} (h : H a = some (.tup xs)) : SqT K H a xs := .inl (.inl h)
theorem Inv.list (I : Inv X pins σ H s) (h : SqL X.K H a xs) : ∃ its : List Value, Vals xs its ∧ PlainL s.heap a its.toArray ∧ xs.length ≤ sizeLine := by
  rcases h with h | ⟨o, its, n, hk, hc, hd, hs, hz, r⟩
  · obtain ⟨z, its, n, r, e⟩ := h.ok I.hok
    exact ⟨its, r, ⟨_, n, e, rfl, rfl, rfl⟩, z⟩
  · refine ⟨its.toList, r, ⟨o, n, I.kIn a o hk, hc, hd, by simpa using hs⟩, ?_⟩
    have e := r.length
    simp only [Array.length_toList] at e
    omega
theorem Inv.tuple (I : Inv X pins σ H s) (h : SqT X.K H a xs) : ∃ its : List Value, Vals xs its ∧ IsTup s.heap a its.toArray ∧ xs.length ≤ sizeLine := by
  rcases h with h | ⟨o, its, n, hk, hc, hs, hz, r⟩
  · obtain ⟨z, its, r, p⟩ := h.ok I.hok
    exact ⟨its, r, p, z⟩
  · refine ⟨its.toList, r, ⟨o, I.kIn a o hk, hc, n, by simpa using hs⟩, ?_⟩
    have e := r.length
    simp only [Array.length_toList] at e
    omega
theorem Inv.list_inj (I : Inv X pins σ H s) (h : SqL X.K H a xs) (h' : SqL X.K H a ys) : xs = ys := by
  obtain ⟨its, r, ⟨o, n, e, _, _, d⟩, _⟩ := I.list h
  obtain ⟨its', r', ⟨o', n', e', _, _, d'⟩, _⟩ := I.list h'
  rw [e] at e'; cases e'
  rw [d] at d'
  injection d' with d1 _
  have : its = its' := by simpa using congrArg Array.toList d1
  subst this
  exact r.inj r'
end

/-! ### another wish about exceptions -/
abbrev Cx.wish (X : Cx) (E : Value → Shared → Prop) : Cx := { X with xe := E }
/-- no exception leaves -/
abbrev Cx.nox (X : Cx) : Cx := X.wish fun _ _ => False
theorem Cx.Ok.wish {X : Cx} (ok : X.Ok) (E : Value → Shared → Prop) : (X.wish E).Ok :=
  ⟨ok.mod, ok.kind, ok.glob, ok.blt, ok.above, ok.inj, ok.has, ok.cab, ok.hd, ok.frames, ok.stk, ok.exf, ok.bs, ok.bsz, ok.noex, ok.exfs, ok.funs, ok.frf⟩
theorem Cx.Ok.unwish {X : Cx} {E : Value → Shared → Prop} (ok : (X.wish E).Ok) : X.Ok :=
  ⟨ok.mod, ok.kind, ok.glob, ok.blt, ok.above, ok.inj, ok.has, ok.cab, ok.hd, ok.frames, ok.stk, ok.exf, ok.bs, ok.bsz, ok.noex, ok.exfs, ok.funs, ok.frf⟩
section
variable {X : Cx} {pins : List (Addr × Obj)} {σ : St} {H : Hp} {s : Shared} {E : Value → Shared → Prop}
theorem Inv.wish (I : Inv X pins σ H s) (E : Value → Shared → Prop) : Inv (X.wish E) pins σ H s := ⟨I.ok.wish E, I.os, I.bare, I.base, I.loc, I.cell, I.free, I.freeC, I.pin, I.hok, I.len⟩
theorem Inv.unwish (I : Inv (X.wish E) pins σ H s) : Inv X pins σ H s := ⟨I.ok.unwish, I.os, I.bare, I.base, I.loc, I.cell, I.free, I.freeC, I.pin, I.hok, I.len⟩
theorem SP.unwish {D : Ends} {f : Flow} {s' : Shared} (h : SP (X.wish E) pins D f s') : SP X pins D f s' := by
  cases f with
  | next => obtain ⟨σ', H', I, q⟩ := h; exact ⟨σ', H', I.unwish, q⟩
  | brk => obtain ⟨σ', H', I, q⟩ := h; exact ⟨σ', H', I.unwish, q⟩
  | cont => obtain ⟨σ', H', I, q⟩ := h; exact ⟨σ', H', I.unwish, q⟩
  | ret u => obtain ⟨v, σ', H', I, r, q⟩ := h; exact ⟨v, σ', H', I.unwish, r, q⟩
theorem PE.nox {e : Expr} {t : TE} (h : PE X.nox e t) : PE X e t := fun pins s σ H Q I hw =>
  wpAny_mono (h pins s σ H Q (I.wish _) hw) (fun _ _ ⟨v, H', I', r, q⟩ => ⟨v, H', I'.unwish, r, q⟩) fun _ _ z => False.elim z
theorem PT.nox {e : Expr} {t : TT} (h : PT X.nox e t) : PT X e t := fun pins s σ H Q I hw =>
  wpAny_mono (h pins s σ H Q (I.wish _) hw) (fun _ _ ⟨H', I', q⟩ => ⟨H', I'.unwish, q⟩) fun _ _ z => False.elim z
theorem PSs.nox {st : List Stmt} {t : TS} (h : PSs X.nox st t) : PSs X st t := fun pins s σ H D I hw =>
  wpAny_mono (h pins s σ H D (I.wish _) hw) (fun _ _ q => q.unwish) fun _ _ z => False.elim z
end

/-! ### blocks and small statements -/
section
variable {X : Cx} {st : Stmt} {rest : List Stmt} {t u : TS} {e : Expr} {te : TE} {pos : Pos}
def tNext : TS := fun D σ H => D.nx σ H
def tSeq (t u : TS) : TS := fun D σ H => t { D with nx := u D } σ H
theorem pss_nil : PSs X [] tNext := fun _ _ σ H _ I h => wpAny_execs_nil ⟨σ, H, I, h⟩
theorem pss_cons (h1 : PS X st t) (h2 : PSs X rest u) : PSs X (st :: rest) (tSeq t u) := by
  intro pins s σ H D I h
  refine wpAny_execs_cons (thn (h1 pins s σ H { D with nx := u D } I h) fun f s1 q => ?_)
  cases f with
  | next =>
    obtain ⟨σ', H', I', q⟩ := q
    exact h2 pins s1 σ' H' D I' q
  | ret v => exact q
  | brk => exact q
  | cont => exact q
theorem pss_one (h1 : PS X st t) : PSs X [st] t := by
  intro pins s σ H D I h
  refine wpAny_execs_cons (thn (h1 pins s σ H D I h) fun f s1 q => ?_)
  cases f with
  | next => exact wpAny_execs_nil q
  | ret v => exact q
  | brk => exact q
  | cont => exact q
/-- in a def's body nothing is shown -/
theorem Inv.quiet {pins : List (Addr × Obj)} {σ : St} {H : Hp} {s : Shared} (I : Inv X pins σ H s) : interactive X.env = false := by simp [interactive, I.ok.kind]
/-- an expression whose value is dropped -/
def tDrop (te : TE) : TS := fun D σ H => te σ H fun _ H1 => D.nx σ H1
theorem ps_expr (he : PE X e te) (hs : swapsWith e none pos.line X.env = pure false := by rfl) : PS X (.Expr e pos) (tDrop te) := by
  intro pins s σ H D I h
  exact wpAny_Expr_any (thn (he pins s σ H _ I h) fun v s1 ⟨x, H1, I1, r1, q1⟩ => ⟨σ, H1, I1, q1⟩) I.quiet hs
def tRet (te : TE) : TS := fun D σ H => te σ H D.rt
theorem ps_ret (he : PE X e te) : PS X (.Return (some e) pos) (tRet te) := by
  intro pins s σ H D I h
  exact wpAny_Return_some (thn (he pins s σ H _ I h) fun v s1 ⟨x, H1, I1, r1, q1⟩ => ⟨x, σ, H1, I1, r1, q1⟩)
def tRetN : TS := fun D _ H => D.rt .non H
def tIfS (c : TT) (t u : TS) : TS := fun D σ H => c σ H fun b H1 => if b = true then t D σ H1 else u D σ H1
theorem ps_if {c : Expr} {a b : List Stmt} {tc : TT} (hc : PT X c tc) (ha : PSs X a t) (hb : PSs X b u) : PS X (.If c a b pos) (tIfS tc t u) := by
  intro pins s σ H D I h
  refine wpAny_If (thn (hc pins s σ H _ I h) fun d s1 ⟨H1, I1, q1⟩ => ?_)
  cases d with
  | true => exact ha pins s1 σ H1 D I1 q1
  | false => exact hb pins s1 σ H1 D I1 q1
/-- code that the proof never comes to -/
def tNever : TS := fun _ _ _ => False
theorem ps_never : PS X st tNever := fun _ _ _ _ _ _ h => h.elim
end

/-! ### targets -/
abbrev TG := V → St → Hp → (St → Hp → Prop) → Prop
abbrev TGs := List V → St → Hp → (St → Hp → Prop) → Prop
def PG (X : Cx) (target : Expr) (t : TG) : Prop :=
  ∀ (pins : List (Addr × Obj)) (s : Shared) (σ : St) (H : Hp) (v : V) (u : Value) (Q : St → Hp → Prop), Inv X pins σ H s → RelV v u → t v σ H Q →
    wpAny (model X.prog X.w) X.A (assign target X.env u) (fun _ s' => ∃ σ' H', Inv X pins σ' H' s' ∧ Q σ' H') X.xe s
/-- several targets, one after another -/
def PGs (X : Cx) (ts : List Expr) (t : TGs) : Prop :=
  ∀ (pins : List (Addr × Obj)) (s : Shared) (σ : St) (H : Hp) (vs : List V) (us : List Value) (Q : St → Hp → Prop), Inv X pins σ H s → Vals vs us → t vs σ H Q →
    wpAny (model X.prog X.w) X.A (assignInOrder ((assignEach ts X.env).map (·.2)) us) (fun _ s' => ∃ σ' H', Inv X pins σ' H' s' ∧ Q σ' H') X.xe s
section
variable {X : Cx} {pos : Pos}
def gName (i : Nat) : TG := fun v σ H Q => Q (σ.set i (some v)) H
theorem pg_name {i : Nat} {x : Str} (hN : X.N.Nodup) (hi : X.N[i]? = some x) (hx : Loc X.env.scope x) (hf : X.fn x = true ∨ X.env.scope.names.lookup x = some .local := by first | exact .inl rfl | exact .inr rfl | assumption) : PG X (.Name x pos) (gName i) := by
  intro pins s σ H v u Q I r h
  exact wpAny_assign_Name (store_ok I hN hi hx r (fun s' I' => ⟨_, H, I', h⟩) hf)
def gNil : TGs := fun vs σ H Q => vs = [] ∧ Q σ H
def gCons (t : TG) (u : TGs) : TGs := fun vs σ H Q => ∃ v r, vs = v :: r ∧ t v σ H fun σ' H' => u r σ' H' Q
theorem pgs_nil : PGs X [] gNil := by
  intro pins s σ H vs us Q I r h
  obtain ⟨e, h⟩ := h
  subst e
  cases r
  exact assignInOrder_nil ⟨σ, H, I, h⟩
theorem pgs_cons {e : Expr} {es : List Expr} {t : TG} {u : TGs} (h1 : PG X e t) (h2 : PGs X es u)
    (hs : (assignEach (e :: es) X.env).map (·.2) = assign e X.env :: (assignEach es X.env).map (·.2) := by rfl) : PGs X (e :: es) (gCons t u) := by
  intro pins s σ H vs us Q I r h
  obtain ⟨v, vr, e1, h⟩ := h
  subst e1
  cases r with
  | cons r rr =>
    rw [hs]
    refine assignInOrder_cons (thn (h1 pins s σ H _ _ _ I r h) fun _ s1 ⟨σ1, H1, I1, q1⟩ => ?_)
    exact h2 pins s1 σ1 H1 _ _ Q I1 rr q1
/-- (a, b, ..) = a tuple of that length -/
def gTup (K : PySem.W.Frag) (n : Nat) (t : TGs) : TG := fun v σ H Q => ∃ a xs, v = .ref a ∧ SqT K H a xs ∧ xs.length = n ∧ t xs σ H Q
theorem pg_tup {es : List Expr} {k : Nat} {t : TGs} {n : Nat} (hc : X.calm = true) (h : PGs X es t)
    (hn : (assignEach es X.env).length = n := by rfl) (hst : (assignEach es X.env).findIdx? (·.1) = none := by rfl) : PG X (.Tuple es k pos) (gTup X.K n t) := by
  intro pins s σ H v u Q I r hw
  obtain ⟨a, xs, e1, hq, hl, hw⟩ := hw
  subst e1
  cases r
  obtain ⟨its, rv, ht, hz⟩ := I.tuple hq
  refine assign_Tuple_tuple (I.ok.hd hc) ht (by simp [hn, ← hl, rv.length]) hst fun h' hx => ?_
  have I1 : Inv X pins σ H { s with heap := h' } := I.kept (t' := s.toks) fun b o e => hx b o (Nat.ne_of_lt (Heap.lt_size e)) e
  exact h pins _ σ H xs _ Q I1 (by simpa using rv) hw
/-- target = value -/
def tAsg (te : TE) (g : TG) : TS := fun D σ H => te σ H fun x H1 => g x σ H1 D.nx
theorem ps_asg {tg e : Expr} {te : TE} {g : TG} (he : PE X e te) (hg : PG X tg g) (hs : swapsWithSole [tg] e pos.line X.env = pure false := by rfl) (hw : swappedStores [tg] e X.env = pure none := by rfl)
    (h1 : (assignEach [tg] X.env).map (·.2) = [assign tg X.env] := by rfl) : PS X (.Assign [tg] e pos) (tAsg te g) := by
  intro pins s σ H D I h
  refine wpAny_Assign_stores (thn (he pins s σ H _ I h) fun v s1 ⟨x, H1, I1, r1, q1⟩ => ?_) hs hw
  rw [h1]
  exact thn (hg pins s1 σ H1 x v _ I1 r1 q1) fun _ s2 q => q
/-- name = value -/
theorem ps_set {i : Nat} {x : Str} {e : Expr} {te : TE} {pos' : Pos} (hN : X.N.Nodup) (hi : X.N[i]? = some x) (hx : Loc X.env.scope x) (he : PE X e te) (hs : swapsWith e (some (.Name x pos')) pos.line X.env = pure false := by rfl) (hf : X.fn x = true ∨ X.env.scope.names.lookup x = some .local := by first | exact .inl rfl | exact .inr rfl | assumption) :
    PS X (.Assign [.Name x pos'] e pos) (tAsg te (gName i)) := by
  intro pins s σ H D I h
  refine wpAny_Assign_Name (thn (he pins s σ H _ I h) fun v s1 ⟨y, H1, I1, r1, q1⟩ => ?_) hs
  exact store_ok I1 hN hi hx r1 (fun s2 I2 => ⟨_, H1, I2, q1⟩) hf
/-- a, b = x, y with plain local names: stored from the right; the pair itself is not tracked (the opening rows as in PyProof/Rows/TupAssign.lean:23) -/
def tPar (i j : Nat) (ta : TA) : TS := fun D σ H => ta σ H fun vs H1 => ∃ v w, vs = [v, w] ∧ D.nx ((σ.set i (some v)).set j (some w)) H1
end

/-! ### while -/
section
variable {X : Cx} {pos : Pos}
end

/-! ### what a loop or a comprehension walks -/
/-- at turn i: it yields x (the heap may grow), or it stops -/
structure It where
  go : Nat → Hp → Prop
  yld : Nat → Hp → V → Hp → Prop
  stop : Nat → Hp → Prop
/-- the iterator's own objects may turn: they are not the frame's, not pinned, younger than the entry (or a comprehension's own) -/
def FpOk (X : Cx) (pins : List (Addr × Obj)) (H : Hp) (b : Addr) : Prop :=
  H b = none ∧ b ≠ X.env.locals ∧ b ∉ X.fs ∧ (b ∈ X.ex ∨ X.s₀.heap.objs.size ≤ b) ∧ (∀ x c, X.env.cells.lookup x = some c → c ≠ b) ∧ ∀ p ∈ X.pn ++ pins, p.1 ≠ b
theorem Inv.fpOk {X : Cx} {pins : List (Addr × Obj)} {σ : St} {H H' : Hp} {s : Shared} {b : Addr} (I : Inv X pins σ H s) (hb : s.heap.objs.size ≤ b) (hn : H' b = none) : FpOk X pins H' b := by
  refine ⟨hn, Nat.ne_of_gt (Nat.lt_of_lt_of_le I.lt hb), I.nofs hb, .inr (Nat.le_trans I.sz hb), fun x c e z => ?_, fun p hp z => ?_⟩
  · obtain ⟨v, q⟩ := I.cell x c e
    exact absurd (Nat.lt_of_lt_of_le q.lt (by rw [z]; exact hb)) (Nat.lt_irrefl _)
  · exact absurd (Nat.lt_of_lt_of_le (Heap.lt_size (I.pin p hp).1) (by rw [z]; exact hb)) (Nat.lt_irrefl _)
structure Turn (P : Program) (w : World) (K : PySem.W.Frag) (tg : Expr) (J : It) (fp : List Addr) (it : Addr) (tn : Nat → Heap → Prop) : Prop where
  mem : it ∈ fp
  obj : ∀ i h, tn i h → ∀ b ∈ fp, ∃ o, h.get? b = some o ∧ ∀ v, o.data ≠ .cell v
  keep : ∀ i h h', tn i h → (∀ b ∈ fp, ∀ o, h.get? b = some o → h'.get? b = some o) → tn i h'
  item : ∀ (X : Cx), X.prog = P → X.w = w → X.K = K → X.calm = true → ∀ (i : Nat) (pins : List (Addr × Obj)) (s : Shared) (σ : St) (H : Hp) (E : Value → Shared → Prop), Inv X pins σ H s → (∀ b ∈ fp, FpOk X pins H b) → tn i s.heap → J.go i H →
    wpAny (model P w) X.A (pyNext (.ref it)) (fun r s1 => ∃ u, r = some u ∧
      wpAny (model P w) X.A (letOwnedTupleGo tg (.ref it) u) (fun _ s2 => ∃ x H', Inv X pins σ H' s2 ∧ RelV x u ∧ J.yld i H x H' ∧ tn (i + 1) s2.heap ∧ ∀ b ∈ fp, H' b = none) E s1) E s
  done : ∀ (X : Cx), X.prog = P → X.w = w → X.K = K → X.calm = true → ∀ (i : Nat) (pins : List (Addr × Obj)) (s : Shared) (σ : St) (H : Hp) (E : Value → Shared → Prop), Inv X pins σ H s → (∀ b ∈ fp, FpOk X pins H b) → tn i s.heap → J.stop i H →
    wpAny (model P w) X.A (pyNext (.ref it)) (fun r s1 => r = none ∧ Inv X pins σ H s1) E s
  self : ∀ (A : Around) (i : Nat) (s : Shared) (Q : Value → Shared → Prop) (E : Value → Shared → Prop), tn i s.heap → Q (.ref it) s → wpAny (model P w) A (pyIter (.ref it)) Q E s
abbrev TI := St → Hp → (It → Hp → Prop) → Prop
/-- an iterator has come -/
def PIE (X : Cx) (pins : List (Addr × Obj)) (σ : St) (tg : Expr) (R : It → Hp → Prop) (itv : Value) (s2 : Shared) : Prop :=
  ∃ (it : Addr) (fp : List Addr) (tn : Nat → Heap → Prop) (J : It) (H' : Hp), itv = .ref it ∧ Inv X pins σ H' s2 ∧ Turn X.prog X.w X.K tg J fp it tn ∧ tn 0 s2.heap ∧ (∀ b ∈ fp, FpOk X pins H' b) ∧ R J H'
def PI (X : Cx) (tg iter : Expr) (wi : TI) : Prop :=
  ∀ (pins : List (Addr × Obj)) (s : Shared) (σ : St) (H : Hp) (R : It → Hp → Prop), Inv X pins σ H s → wi σ H R →
    wpAny (model X.prog X.w) X.A (eval iter X.env) (fun v s1 => wpAny (model X.prog X.w) X.A (pyIter v) (PIE X pins σ tg R) X.xe s1) X.xe s

/-- the step ahead of the store is nothing for an iterator that keeps no tuple -/
theorem go_of {M : Model} {A : Around} {E : Value → Shared → Prop} {s : Shared} {tg : Expr} {it : Addr} {u : Value} {o : Obj} {n : String} {vs : Array Value} {Q : Unit → Shared → Prop} (ho : s.heap.get? it = some o) (hc : o.cls = .type n) (hd : o.data = .fields vs)
    (hn : ["enumerate", "zip", "dict_itemiterator", "dict_reverseitemiterator", "odict_iterator", "itertools.zip_longest", "itertools.pairwise"].contains n = false) (hQ : Q () s) : wpAny M A (letOwnedTupleGo tg (.ref it) u) Q E s := by
  unfold letOwnedTupleGo
  cases tg <;> first
    | exact wpAny_pure hQ
    | (cases u <;> first
        | exact wpAny_pure hQ
        | (refine wpAny_bind (wpAny_load ho ?_)
           rw [hc, hd]
           show wpAny M A (if (["enumerate", "zip", "dict_itemiterator", "dict_reverseitemiterator", "odict_iterator", "itertools.zip_longest", "itertools.pairwise"].contains n && vs[0]? == some (rawInt _)) = true then _ else _) Q E s
           rw [if_neg (by intro h; rw [hn, Bool.false_and] at h; cases h)]
           exact wpAny_pure hQ))

/-- the list at a, as it stands at each turn (a loop may append to it) -/
def Itl (K : PySem.W.Frag) (a : Addr) : It :=
  ⟨fun i H => ∃ xs x, SqL K H a xs ∧ xs[i]? = some x, fun i H x H' => H' = H ∧ ∀ xs, SqL K H a xs → xs[i]? = some x, fun i H => ∃ xs, SqL K H a xs ∧ xs.length ≤ i⟩
/-- lo, lo + 1, .. (n of them) -/
def Itr (lo : Int) (n : Nat) : It := ⟨fun i _ => i < n, fun i H x H' => H' = H ∧ x = .int (lo + i), fun i _ => n ≤ i⟩
theorem turn_list {P : Program} {w : World} {K : PySem.W.Frag} {tg : Expr} (a it : Addr) : Turn P w K tg (Itl K a) [it] it (fun i h => h.IsListIter it a i) where
  mem := by simp
  obj := fun i h st b hb => by
    have e : b = it := by simpa using hb
    subst e
    obtain ⟨o, e, c, d⟩ := st
    exact ⟨o, e, fun v z => by rw [d] at z; cases z⟩
  keep := fun i h h' st k => st.at fun o e => k it (by simp) o e
  item := by
    intro X hP hw hK hc i pins s σ H E I hf st hg
    subst hP hw hK
    obtain ⟨xs, x, hq, hx⟩ := hg
    obtain ⟨its, rv, p, hz⟩ := I.list hq
    obtain ⟨u, hu, ru⟩ := rv.get hx
    obtain ⟨f0, f1, f2, f3, f4, f5⟩ := hf it (by simp)
    refine wpAny_pyNext_list_item st p.isList (x := u) (by simpa using hu) fun h' st' sb => ?_
    have I1 : Inv X pins σ H { s with heap := h' } := I.turned (t' := s.toks) (fun b o hb e => (sb.2 b hb).trans e) f0 f1 f3 f4 f5
    obtain ⟨o, e, c, d⟩ := id st'
    exact ⟨u, rfl, go_of (s := { s with heap := h' }) e c d (by decide) ⟨x, H, I1, ru, ⟨rfl, fun ys hy => by rw [I.list_inj hy hq]; exact hx⟩, st', fun b hb => (hf b hb).1⟩⟩
  done := by
    intro X hP hw hK hc i pins s σ H E I hf st hg
    subst hP hw hK
    obtain ⟨xs, hq, hx⟩ := hg
    obtain ⟨its, rv, p, hz⟩ := I.list hq
    obtain ⟨f0, f1, f2, f3, f4, f5⟩ := hf it (by simp)
    have hl := rv.length
    exact wpAny_pyNext_list_end (I.ok.hd hc) st p.isList (by simp; omega) fun h' eb => ⟨rfl, I.turned (t' := s.toks) (fun b o hb e => eb b o hb e) f0 f1 f3 f4 f5⟩
  self := fun _ _ _ _ _ st h => wpAny_pyIter_listiter st h
theorem turn_range {P : Program} {w : World} {K : PySem.W.Frag} {tg : Expr} (it : Addr) (lo : Int) (n : Nat) : Turn P w K tg (Itr lo n) [it] it (fun i h => IsRangeIter h it (lo + (i : Nat) * 1) ((n : Int) - (i : Nat)) 1) where
  mem := by simp
  obj := fun i h st b hb => by
    have e : b = it := by simpa using hb
    subst e
    exact ⟨_, st, fun v z => by
      have z' : Data.fields _ = Data.cell v := z
      cases z'⟩
  keep := fun i h h' st k => k it (by simp) _ st
  item := by
    intro X hP hw hK hc i pins s σ H E I hf st hg
    subst hP hw hK
    obtain ⟨f0, f1, f2, f3, f4, f5⟩ := hf it (by simp)
    have W := Walks.range (prog := X.prog) (w := X.w) (I.ok.hd hc) it lo 1 n
    refine W.item i s _ _ hg st fun v h' tk hv st' kk => ?_
    obtain ⟨t, rfl⟩ := hv
    have I1 : Inv X pins σ H { s with heap := h', toks := tk } := I.turned (fun b o hb e => kk b o (by simpa using hb) e) f0 f1 f3 f4 f5
    refine ⟨_, rfl, go_of (s := { s with heap := h', toks := tk }) (n := "range_iterator") st' rfl rfl (by decide) ⟨.int (lo + i), H, I1, ⟨t, ?_⟩, ⟨rfl, rfl⟩, st', fun b hb => (hf b hb).1⟩⟩
    rw [Int.mul_one]
  done := by
    intro X hP hw hK hc i pins s σ H E I hf st hg
    subst hP hw hK
    obtain ⟨f0, f1, f2, f3, f4, f5⟩ := hf it (by simp)
    exact wpAny_pyNext_range_end (I.ok.hd hc) st (by have : n ≤ i := hg; omega) fun h' eb => ⟨rfl, I.turned (t' := s.toks) (fun b o hb e => eb b o hb e) f0 f1 f3 f4 f5⟩
  self := fun _ _ _ _ _ st h => wpAny_pyIter_rangeiter st h
end L2

namespace L2
open PySem PySem.Spec PyProof.Rows
section
variable {X : Cx} {tg : Expr}
def iList (K : PySem.W.Frag) (tl : TE) : TI := fun σ H R => tl σ H fun x H1 => ∃ a, x = .ref a ∧ (∃ xs, SqL K H1 a xs) ∧ R (Itl K a) H1
theorem pi_list {l : Expr} {tl : TE} (hl : PE X l tl) : PI X tg l (iList X.K tl) := by
  intro pins s σ H R I h
  refine thn (hl pins s σ H _ I h) fun v s1 ⟨x, H1, I1, r1, q1⟩ => ?_
  obtain ⟨a, e, ⟨xs, hq⟩, q⟩ := q1
  subst e
  cases r1
  obtain ⟨its, rv, p, hz⟩ := I1.list hq
  refine wpAny_pyIter_list p.isList ?_
  refine ⟨s1.heap.objs.size, [s1.heap.objs.size], _, _, H1, rfl, I1.kept (t' := s1.toks) fun b o e => Heap.get?_push_of_some _ e, turn_list a _, ⟨_, Heap.get?_push_size _ rfl, rfl, rfl⟩, fun b hb => ?_, q⟩
  have e : b = s1.heap.objs.size := by simpa using hb
  subst e
  exact I1.fpOk (Nat.le_refl _) (I1.hok.fresh (Nat.le_refl _))
/-- a range object just made, walked -/
theorem range_it {pins : List (Addr × Obj)} {σ : St} {H : Hp} {s : Shared} {R : It → Hp → Prop} {E : Value → Shared → Prop} {lo hi : Int} {t u v : Tok} {tk : Nat} (I : Inv X pins σ H s) (h1 : -(2 ^ 62) ≤ lo) (h2 : lo < 2 ^ 62) (h3 : -(2 ^ 62) ≤ hi) (h4 : hi < 2 ^ 62)
    (q : R (Itr lo (hi - lo).toNat) H) : wpAny (model X.prog X.w) X.A (pyIter (.ref s.heap.objs.size)) (PIE X pins σ tg R) E { s with heap := s.heap.push { cls := .type "range", data := .fields #[.int lo t, .int hi u, .int 1 v] }, toks := tk } := by
  refine wpAny_pyIter_range (IsRange.new ..) (small_one h1 h2 h3 h4) ?_
  have I1 : Inv X pins σ H { s with heap := s.heap.push { cls := .type "range", data := .fields #[.int lo t, .int hi u, .int 1 v] }, toks := tk } := I.kept fun b o e => Heap.get?_push_of_some _ e
  refine ⟨(s.heap.push { cls := .type "range", data := .fields #[.int lo t, .int hi u, .int 1 v] }).objs.size, [(s.heap.push { cls := .type "range", data := .fields #[.int lo t, .int hi u, .int 1 v] }).objs.size], _, _, H, rfl,
    I1.kept (t' := tk) fun b o e => Heap.get?_push_of_some _ e, turn_range _ lo (hi - lo).toNat, ?_, fun b hb => ?_, q⟩
  · have e1 : lo + ((0 : Nat) : Int) * 1 = lo := by simp
    have e2 : (((hi - lo).toNat : Nat) : Int) - ((0 : Nat) : Int) = Builtin.Range.rangeSize lo hi 1 := by rw [rangeSize_one]; split <;> omega
    show IsRangeIter _ _ (lo + ((0 : Nat) : Int) * 1) ((((hi - lo).toNat : Nat) : Int) - ((0 : Nat) : Int)) 1
    rw [e1, e2]
    exact Heap.get?_push_size _ rfl
  · have e : b = (s.heap.push { cls := .type "range", data := .fields #[.int lo t, .int hi u, .int 1 v] }).objs.size := by simpa using hb
    subst e
    exact I1.fpOk (Nat.le_refl _) (I1.hok.fresh (Nat.le_refl _))
def iRng1 (ta : TA) : TI := fun σ H R => ta σ H fun vs H1 => ∃ j : Int, vs = [.int j] ∧ -(2 ^ 62) ≤ j ∧ j < 2 ^ 62 ∧ R (Itr 0 j.toNat) H1
theorem pi_range1 {a : Expr} {ta : TA} {p pos : Pos} (hg : Gl X "range") (hm : X.mg "range" = none) (ha : PA X [a] ta) (hs : starEach [a] X.env = [(false, eval a X.env)] := by rfl) : PI X tg (.Call (.Name "range" p) [a] [] pos) (iRng1 ta) := by
  intro pins s σ H R I h
  refine Call_ (ld_blt I hg hm boot_range (PyProof.Rows.callWith_type1 (thn (ha pos pins s σ H _ I h) fun us s1 ⟨vs, H1, I1, r1, q1⟩ => ?_) hs rfl))
  obtain ⟨j, e, q1, q2, q⟩ := q1
  subst e
  cases r1 with
  | cons r rr =>
    cases rr
    obtain ⟨t, rfl⟩ := r
    exact call_range_1 (range_it I1 (by omega) (by omega) q1 q2 (by simpa using q))
/-! ### for -/
/-- W: the invariant by the turn and a measure; N: what the body is to reach -/
def tFor (wi : TI) (g : TG) (tb : TS) : TS := fun D σ H => wi σ H fun J H1 => ∃ W : Nat → Nat → St → Hp → Prop, (∃ m, W 0 m σ H1) ∧ ∀ i m σ H, W i m σ H →
  (J.stop i H ∧ D.nx σ H) ∨ (J.go i H ∧ ∃ N : St → Hp → Prop, (∀ σ' H', N σ' H' → ∃ m', m' < m ∧ W (i + 1) m' σ' H') ∧ ∀ x H', J.yld i H x H' → g x σ H' fun σ2 H2 => tb { D with nx := N, ct := N, bk := D.nx } σ2 H2)
/-- the records at fp as they stand -/
def pinsAt (fp : List Addr) (h : Heap) : List (Addr × Obj) := fp.filterMap fun b => (h.get? b).map fun o => (b, o)
theorem mem_pinsAt {fp : List Addr} {h : Heap} {b : Addr} {o : Obj} (hb : b ∈ fp) (e : h.get? b = some o) : (b, o) ∈ pinsAt fp h := List.mem_filterMap.mpr ⟨b, hb, by rw [e]; rfl⟩
theorem of_pinsAt {fp : List Addr} {h : Heap} {p : Addr × Obj} (hp : p ∈ pinsAt fp h) : p.1 ∈ fp ∧ h.get? p.1 = some p.2 := by
  obtain ⟨b, hb, e⟩ := List.mem_filterMap.mp hp
  cases q : h.get? b with
  | none => rw [q] at e; cases e
  | some o =>
    rw [q] at e
    have e' : (b, o) = p := Option.some.inj e
    subst e'
    exact ⟨hb, q⟩
theorem Inv.pinned {pins : List (Addr × Obj)} {σ : St} {H : Hp} {s : Shared} {fp : List Addr} (I : Inv X pins σ H s) (hf : ∀ b ∈ fp, FpOk X pins H b) (ho : ∀ b ∈ fp, ∃ o, s.heap.get? b = some o ∧ ∀ v, o.data ≠ .cell v) : Inv X (pins ++ pinsAt fp s.heap) σ H s :=
  I.pins_of fun p hp => (List.mem_append.mp hp).elim (fun z => I.pin p (List.mem_append_right _ z)) fun z => by
    obtain ⟨hb, e⟩ := of_pinsAt z
    obtain ⟨f0, f1, f2, _⟩ := hf p.1 hb
    obtain ⟨o, e', d⟩ := ho p.1 hb
    rw [e] at e'; cases e'
    exact ⟨e, f0, f1, f2, d⟩
theorem Inv.unpinned {pins pl : List (Addr × Obj)} {σ : St} {H : Hp} {s : Shared} (I : Inv X (pins ++ pl) σ H s) : Inv X pins σ H s := I.pins_of fun p hp => I.pin p (List.mem_append_right _ (List.mem_append_left _ hp))
theorem ps_for {iter : Expr} {body : List Stmt} {wi : TI} {g : TG} {tb : TS} {pos : Pos} (hp : PassesOwn (model X.prog X.w) X.A X.env X.xe) (hc : X.calm = true) (hi : PI X tg iter wi) (hg : PG X tg g) (hb : PSs X body tb)
    (hs : ∀ x, foldedSetIterable iter X.env x = pure x := by intro _; rfl) : PS X (.For tg iter body [] pos) (tFor wi g tb) := by
  intro pins s σ H D I h
  refine wpAny_For (thn (hi pins s σ H _ I h) fun v s1 h1 => thn h1 fun itv s2 h2 => ?_) hs
  obtain ⟨it, fp, tn, J, H2, e, I2, T, st2, f2, W, ⟨m0, w0⟩, turn⟩ := h2
  subst e
  -- what stays true of the iterator's objects through the loop
  have stat : ∀ {H' : Hp}, (∀ b ∈ fp, H' b = none) → ∀ b ∈ fp, FpOk X pins H' b := fun hn b hb => ⟨hn b hb, (f2 b hb).2⟩
  refine codeAny_forLoop_any (fun n s' => ∃ i σ' H', Inv X pins σ' H' s' ∧ tn i s'.heap ∧ (∀ b ∈ fp, H' b = none) ∧ W i n σ' H') ?_ m0 ⟨0, σ, H2, I2, st2, fun b hb => (f2 b hb).1, w0⟩
  rintro n s3 ⟨i, σ3, H3, I3, st3, fr3, w3⟩
  rcases turn i n σ3 H3 w3 with ⟨stop, qn⟩ | ⟨go, N, hN, step⟩
  · refine wpAny_passesOwn hp (thn (T.done X rfl rfl rfl hc i pins s3 σ3 H3 X.xe I3 (stat fr3) st3 stop) fun r s4 ⟨hr, I4⟩ => ?_)
    subst hr
    exact wpAny_execs_nil ⟨σ3, H3, I4, qn⟩
  · refine wpAny_passesOwn hp (thn (T.item X rfl rfl rfl hc i pins s3 σ3 H3 X.xe I3 (stat fr3) st3 go) fun r s4 ⟨u, hr, h4⟩ => ?_)
    subst hr
    refine wpAny_passesOwn hp (thn h4 fun _ s5 ⟨x, H5, I5, r5, y5, st5, fr5⟩ => ?_)
    have I5' := I5.pinned (stat fr5) (T.obj _ _ st5)
    refine wpAny_passesOwn hp (thn (hg _ s5 σ3 H5 x u _ I5' r5 (step x H5 y5)) fun _ s6 ⟨σ6, H6, I6, q6⟩ => ?_)
    refine wpAny_passesOwn hp (thn (hb _ s6 σ6 H6 _ I6 q6) fun f s7 q7 => ?_)
    have again : ∀ {σ7 : St} {H7 : Hp}, Inv X (pins ++ pinsAt fp s5.heap) σ7 H7 s7 → N σ7 H7 → ∃ m, m < n ∧ ∃ i σ' H', Inv X pins σ' H' s7 ∧ tn i s7.heap ∧ (∀ b ∈ fp, H' b = none) ∧ W i m σ' H' := fun {σ7 H7} I7 n7 => by
      obtain ⟨m', hm, w7⟩ := hN σ7 H7 n7
      refine ⟨m', hm, i + 1, σ7, H7, I7.unpinned, T.keep _ _ _ st5 fun b hb o e => (I7.pin (b, o) (List.mem_append_right _ (List.mem_append_right _ (mem_pinsAt hb e)))).1, fun b hb => ?_, w7⟩
      obtain ⟨o, e, d⟩ := T.obj _ _ st5 b hb
      exact (I7.pin (b, o) (List.mem_append_right _ (List.mem_append_right _ (mem_pinsAt hb e)))).2.1
    cases f with
    | next => obtain ⟨σ7, H7, I7, n7⟩ := q7; exact again I7 n7
    | cont => obtain ⟨σ7, H7, I7, n7⟩ := q7; exact again I7 n7
    | brk => obtain ⟨σ7, H7, I7, q7⟩ := q7; exact ⟨σ7, H7, I7.unpinned, q7⟩
    | ret v => obtain ⟨x7, σ7, H7, I7, r7, q7⟩ := q7; exact ⟨x7, σ7, H7, I7.unpinned, r7, q7⟩
end

theorem for_range {lo : Int} {n : Nat} {g : TG} {tb : TS} {D : Ends} {σ : St} {H : Hp} (Pv : Nat → St → Hp → Prop) (h0 : Pv 0 σ H)
    (hs : ∀ i σ H, i < n → Pv i σ H → g (.int (lo + i)) σ H fun σ2 H2 => tb { D with nx := Pv (i + 1), ct := Pv (i + 1), bk := D.nx } σ2 H2) (hd : ∀ σ H, Pv n σ H → D.nx σ H) :
    ∃ W : Nat → Nat → St → Hp → Prop, (∃ m, W 0 m σ H) ∧ ∀ i m σ H, W i m σ H →
      ((Itr lo n).stop i H ∧ D.nx σ H) ∨ ((Itr lo n).go i H ∧ ∃ N : St → Hp → Prop, (∀ σ' H', N σ' H' → ∃ m', m' < m ∧ W (i + 1) m' σ' H') ∧ ∀ x H', (Itr lo n).yld i H x H' → g x σ H' fun σ2 H2 => tb { D with nx := N, ct := N, bk := D.nx } σ2 H2) := by
  refine ⟨fun i m σ H => m = n - i ∧ i ≤ n ∧ Pv i σ H, ⟨n, by simp, Nat.zero_le _, h0⟩, ?_⟩
  rintro i m σ H ⟨rfl, hi, p⟩
  by_cases hlt : i < n
  · refine .inr ⟨hlt, Pv (i + 1), fun σ' H' p' => ⟨n - (i + 1), by omega, rfl, hlt, p'⟩, fun x H' y => ?_⟩
    obtain ⟨e, y⟩ := y
    subst e y
    exact hs i σ _ hlt p
  · have e : i = n := by omega
    subst e
    exact .inl ⟨Nat.le_refl _, hd σ H p⟩
end L2

namespace L2
open PySem PySem.Spec PyProof.Rows

abbrev R2 := V → V → Hp → VK → Prop
/-- a two-place operation on values: f is binaryOp op, inplaceOp op or compareOp op -/
def OpR (X : Cx) (f : Value → Value → Sem Value) (r : R2) : Prop :=
  ∀ (pins : List (Addr × Obj)) (s : Shared) (σ : St) (H : Hp) (x y : V) (v u : Value) (Q : VK), Inv X pins σ H s → RelV x v → RelV y u → r x y H Q →
    wpAny (model X.prog X.w) X.A (f v u) (EP X pins σ Q) X.xe s
/-- a one-place operation -/
def UnR (X : Cx) (f : Value → Sem Value) (r : V → Hp → VK → Prop) : Prop :=
  ∀ (pins : List (Addr × Obj)) (s : Shared) (σ : St) (H : Hp) (x : V) (v : Value) (Q : VK), Inv X pins σ H s → RelV x v → r x H Q →
    wpAny (model X.prog X.w) X.A (f v) (EP X pins σ Q) X.xe s
/-- a call of a value that is known (a builtin, a type) with values -/
def CallR (X : Cx) (f : Value) (r : List V → Hp → VK → Prop) : Prop :=
  ∀ (pins : List (Addr × Obj)) (s : Shared) (σ : St) (H : Hp) (xs : List V) (us : List Value) (Q : VK), Inv X pins σ H s → Vals xs us → r xs H Q →
    wpAny (model X.prog X.w) X.A (call f us) (EP X pins σ Q) X.xe s
def tOp (r : R2) (ta tb : TE) : TE := fun σ H Q => ta σ H fun x H1 => tb σ H1 fun y H2 => r x y H2 Q
def tUn (r : V → Hp → VK → Prop) (ta : TE) : TE := fun σ H Q => ta σ H fun x H1 => r x H1 Q
/-- ints in, under C, and a value out -/
def rI (C : Int → Int → Prop) (g : Int → Int → V) : R2 := fun x y H Q => ∃ i j, x = .int i ∧ y = .int j ∧ C i j ∧ Q (g i j) H
def rI0 (g : Int → Int → V) : R2 := fun x y H Q => ∃ i j, x = .int i ∧ y = .int j ∧ Q (g i j) H
def rU (g : Int → V) : V → Hp → VK → Prop := fun x H Q => ∃ i, x = .int i ∧ Q (g i) H

section
variable {X : Cx} {a b c : Expr} {ta tb tc : TE} {pos : Pos}

theorem binT (ha : PE X a ta) (hb : PE X b tb) {pins : List (Addr × Obj)} {s : Shared} {σ : St} {H : Hp} {R : V → V → Hp → Prop} (I : Inv X pins σ H s)
    (h : ta σ H fun x H1 => tb σ H1 fun y H2 => R x y H2) {Q : Value → Shared → Prop} {f : Value → Value → Sem Value}
    (hf : ∀ v u s2 x y H2, Inv X pins σ H2 s2 → RelV x v → RelV y u → R x y H2 → wpAny (model X.prog X.w) X.A (f v u) Q X.xe s2) :
    wpAny (model X.prog X.w) X.A (eval a X.env) (fun v s₁ => wpAny (model X.prog X.w) X.A (eval b X.env) (fun u s₂ => wpAny (model X.prog X.w) X.A (f v u) Q X.xe s₂) X.xe s₁) X.xe s := by
  refine thn (ha pins s σ H _ I h) fun v s1 ⟨x, H1, I1, r1, q1⟩ => ?_
  refine thn (hb pins s1 σ H1 _ I1 q1) fun u s2 ⟨y, H2, I2, r2, q2⟩ => ?_
  exact hf v u s2 x y H2 I2 r1 r2 q2

theorem pe_op {op : Operator} {r : R2} (ho : OpR X (binaryOp op) r) (ha : PE X a ta) (hb : PE X b tb) : PE X (.BinOp a op b pos) (tOp r ta tb) := by
  intro pins s σ H Q I h
  exact wpAny_BinOp (binT ha hb I h fun v u s2 x y H2 I2 rx ry q => ho pins s2 σ H2 x y v u Q I2 rx ry q)
theorem pe_un {op : UnaryOp} {r : V → Hp → VK → Prop} (ho : UnR X (unaryOp op) r) (ha : PE X a ta) : PE X (.UnaryOp op a pos) (tUn r ta) := by
  intro pins s σ H Q I h
  exact UnaryOp_ (thn (ha pins s σ H _ I h) fun v s1 ⟨x, H1, I1, r1, q1⟩ => ho pins s1 σ H1 x v Q I1 r1 q1)
/-! ### ints -/
theorem opI {f : Value → Value → Sem Value} {C : Int → Int → Prop} {g : Int → Int → Int}
    (rule : ∀ (i j : Int) (t u : Tok) (s : Shared) (Q : Value → Shared → Prop) (E : Value → Shared → Prop), C i j → Q (.int (g i j) s.toks) { s with toks := s.toks + 1 } → wpAny (model X.prog X.w) X.A (f (.int i t) (.int j u)) Q E s) :
    OpR X f (rI C fun i j => .int (g i j)) := by
  intro pins s σ H x y v u Q I rx ry h
  obtain ⟨i, j, rfl, rfl, hc, q⟩ := h
  obtain ⟨t, rfl⟩ := rx
  obtain ⟨t', rfl⟩ := ry
  exact rule i j t t' s _ _ hc ⟨.int (g i j), H, I.tok _, ⟨_, rfl⟩, q⟩
theorem opI0 {f : Value → Value → Sem Value} {g : Int → Int → Int}
    (rule : ∀ (i j : Int) (t u : Tok) (s : Shared) (Q : Value → Shared → Prop) (E : Value → Shared → Prop), Q (.int (g i j) s.toks) { s with toks := s.toks + 1 } → wpAny (model X.prog X.w) X.A (f (.int i t) (.int j u)) Q E s) :
    OpR X f (rI0 fun i j => .int (g i j)) := by
  intro pins s σ H x y v u Q I rx ry h
  obtain ⟨i, j, rfl, rfl, q⟩ := h
  obtain ⟨t, rfl⟩ := rx
  obtain ⟨t', rfl⟩ := ry
  exact rule i j t t' s _ _ ⟨.int (g i j), H, I.tok _, ⟨_, rfl⟩, q⟩
theorem opB0 {f : Value → Value → Sem Value} {g : Int → Int → Bool}
    (rule : ∀ (i j : Int) (t u : Tok) (s : Shared) (Q : Value → Shared → Prop) (E : Value → Shared → Prop), Q (.bool (g i j)) s → wpAny (model X.prog X.w) X.A (f (.int i t) (.int j u)) Q E s) :
    OpR X f (rI0 fun i j => .bl (g i j)) := by
  intro pins s σ H x y v u Q I rx ry h
  obtain ⟨i, j, rfl, rfl, q⟩ := h
  obtain ⟨t, rfl⟩ := rx
  obtain ⟨t', rfl⟩ := ry
  exact rule i j t t' s _ _ ⟨.bl (g i j), H, I, rfl, q⟩

def CMul (i j : Int) : Prop := (-(2 ^ 64) < i ∧ i < 2 ^ 64) ∨ (-(2 ^ 64) < j ∧ j < 2 ^ 64)
theorem CMul.ok {i j : Int} (h : CMul i j) : IntMulOk i j := by
  rcases h with ⟨h1, h2⟩ | ⟨h1, h2⟩
  · exact .of_left (intBits_le_64 h1 h2)
  · exact .of_right (intBits_le_64 h1 h2)
theorem op_add : OpR X (binaryOp .Add) (rI0 fun i j => .int (i + j)) := opI0 fun _ _ _ _ _ _ _ q => add_int q
theorem op_mul : OpR X (binaryOp .Mult) (rI CMul fun i j => .int (i * j)) := opI fun _ _ _ _ _ _ _ hc q => mul_int q hc.ok
/-- % by a positive divisor of any size -/
theorem op_mod : OpR X (binaryOp .Mod) (rI (fun _ j => 0 < j) fun i j => .int (i % j)) := opI fun i j _ _ _ _ _ hc q => by
  have h1 : (0 : Int) < j := hc
  exact mod_int' (by omega) (by rw [Int.fmod_eq_emod_of_nonneg i (by omega)]; exact q)
theorem unI {f : Value → Sem Value} {g : Int → Int}
    (rule : ∀ (i : Int) (t : Tok) (s : Shared) (Q : Value → Shared → Prop) (E : Value → Shared → Prop), Q (.int (g i) s.toks) { s with toks := s.toks + 1 } → wpAny (model X.prog X.w) X.A (f (.int i t)) Q E s) :
    UnR X f (rU fun i => .int (g i)) := by
  intro pins s σ H x v Q I rx h
  obtain ⟨i, rfl, q⟩ := h
  obtain ⟨t, rfl⟩ := rx
  exact rule i t s _ _ ⟨.int (g i), H, I.tok _, ⟨_, rfl⟩, q⟩
theorem un_neg : UnR X (unaryOp .USub) (rU fun i => .int (-i)) := unI fun _ _ _ _ _ q => neg_int q
end

/-! ### comparisons -/
/-- the scalars that == tells apart as data does -/
def scal : V → V → Bool
  | .non, .non => true | .non, .int _ => true | .int _, .non => true | .non, .bl _ => true | .bl _, .non => true | .non, .str _ => true | .str _, .non => true
  | .int _, .int _ => true | .bl _, .bl _ => true | .str _, .str _ => true | .byt _, .byt _ => true
  | .int _, .str _ => true | .str _, .int _ => true | .bl _, .str _ => true | .str _, .bl _ => true
  | _, _ => false
def rEq : R2 := fun x y H Q => scal x y = true ∧ Q (.bl (decide (x = y))) H
def rNe : R2 := fun x y H Q => scal x y = true ∧ Q (.bl (!decide (x = y))) H

theorem dec_int {i j : Int} : decide (V.int i = V.int j) = (i == j) := by
  rw [Bool.eq_iff_iff]
  simp
theorem dec_bl {i j : Bool} : decide (V.bl i = V.bl j) = (i == j) := by
  rw [Bool.eq_iff_iff]
  simp
theorem dec_str {i j : Str} : decide (V.str i = V.str j) = (i == j) := by
  rw [Bool.eq_iff_iff]
  simp
theorem dec_byt {i j : Array UInt8} : decide (V.byt i = V.byt j) = (i.toList == j.toList) := by
  rw [Bool.eq_iff_iff]
  cases i
  cases j
  simp

section
variable {X : Cx} {a b c : Expr} {ta tb tc : TE} {pos : Pos}
theorem fin_bl {pins : List (Addr × Obj)} {σ : St} {H : Hp} {s : Shared} {Q : VK} {k k' : Bool} (I : Inv X pins σ H s) (q : Q (.bl k) H) (e : k = k') : EP X pins σ Q (.bool k') s := by
  subst e
  exact ⟨.bl k, H, I, rfl, q⟩
theorem op_eq : OpR X (compareOp .Eq) rEq := by
  intro pins s σ H x y v u Q I rx ry h
  obtain ⟨hs, q⟩ := h
  cases x with
  | non =>
    cases rx
    cases y with
    | non => cases ry; exact PySem.EqNone.eq_none_none (fin_bl I q (by simp))
    | bl j => cases ry; exact PySem.EqNone.eq_none_bool (fin_bl I q (by simp))
    | int j => obtain ⟨t', rfl⟩ := ry; exact PySem.EqNone.eq_none_int (fin_bl I q (by simp))
    | str j => obtain ⟨t', rfl⟩ := ry; exact PySem.EqNone.eq_none_str (fin_bl I q (by simp))
    | _ => exact absurd (show false = true from hs) Bool.false_ne_true
  | bl i =>
    cases rx
    cases y with
    | non => cases ry; exact PySem.EqNone.eq_bool_none (fin_bl I q (by simp))
    | bl j => cases ry; exact eq_bool (fin_bl I q dec_bl)
    | str j => obtain ⟨t', rfl⟩ := ry; exact PySem.EqMixed.eq_bool_str (fin_bl I q (by simp))
    | _ => exact absurd (show false = true from hs) Bool.false_ne_true
  | int i =>
    obtain ⟨t, rfl⟩ := rx
    cases y with
    | non => cases ry; exact PySem.EqNone.eq_int_none (fin_bl I q (by simp))
    | int j => obtain ⟨t', rfl⟩ := ry; exact eq_int (fin_bl I q dec_int)
    | str j => obtain ⟨t', rfl⟩ := ry; exact PySem.EqMixed.eq_int_str (fin_bl I q (by simp))
    | _ => exact absurd (show false = true from hs) Bool.false_ne_true
  | str i =>
    obtain ⟨t, rfl⟩ := rx
    cases y with
    | non => cases ry; exact PySem.EqNone.eq_str_none (fin_bl I q (by simp))
    | bl j => cases ry; exact PySem.EqMixed.eq_str_bool (fin_bl I q (by simp))
    | int j => obtain ⟨t', rfl⟩ := ry; exact PySem.EqMixed.eq_str_int (fin_bl I q (by simp))
    | str j => obtain ⟨t', rfl⟩ := ry; exact eq_str (fin_bl I q dec_str)
    | _ => exact absurd (show false = true from hs) Bool.false_ne_true
  | byt i =>
    obtain ⟨t, rfl⟩ := rx
    cases y with
    | byt j => obtain ⟨t', rfl⟩ := ry; exact PySem.W.eq_bytes (fin_bl I q dec_byt)
    | _ => exact absurd (show false = true from hs) Bool.false_ne_true
  | _ => cases y <;> exact absurd (show false = true from hs) Bool.false_ne_true
theorem op_ne : OpR X (compareOp .NotEq) rNe := by
  intro pins s σ H x y v u Q I rx ry h
  obtain ⟨hs, q⟩ := h
  cases x with
  | non =>
    cases rx
    cases y with
    | non => cases ry; exact PySem.EqNone.ne_none_none (fin_bl I q (by simp))
    | bl j => cases ry; exact PySem.EqNone.ne_none_bool (fin_bl I q (by simp))
    | int j => obtain ⟨t', rfl⟩ := ry; exact PySem.EqNone.ne_none_int (fin_bl I q (by simp))
    | str j => obtain ⟨t', rfl⟩ := ry; exact PySem.EqNone.ne_none_str (fin_bl I q (by simp))
    | _ => exact absurd (show false = true from hs) Bool.false_ne_true
  | bl i =>
    cases rx
    cases y with
    | non => cases ry; exact PySem.EqNone.ne_bool_none (fin_bl I q (by simp))
    | bl j => cases ry; exact ne_bool (fin_bl I q (congrArg not dec_bl))
    | str j => obtain ⟨t', rfl⟩ := ry; exact PySem.EqMixed.ne_bool_str (fin_bl I q (by simp))
    | _ => exact absurd (show false = true from hs) Bool.false_ne_true
  | int i =>
    obtain ⟨t, rfl⟩ := rx
    cases y with
    | non => cases ry; exact PySem.EqNone.ne_int_none (fin_bl I q (by simp))
    | int j => obtain ⟨t', rfl⟩ := ry; exact ne_int (fin_bl I q (congrArg not dec_int))
    | str j => obtain ⟨t', rfl⟩ := ry; exact PySem.EqMixed.ne_int_str (fin_bl I q (by simp))
    | _ => exact absurd (show false = true from hs) Bool.false_ne_true
  | str i =>
    obtain ⟨t, rfl⟩ := rx
    cases y with
    | non => cases ry; exact PySem.EqNone.ne_str_none (fin_bl I q (by simp))
    | bl j => cases ry; exact PySem.EqMixed.ne_str_bool (fin_bl I q (by simp))
    | int j => obtain ⟨t', rfl⟩ := ry; exact PySem.EqMixed.ne_str_int (fin_bl I q (by simp))
    | str j => obtain ⟨t', rfl⟩ := ry; exact ne_str (fin_bl I q (congrArg not dec_str))
    | _ => exact absurd (show false = true from hs) Bool.false_ne_true
  | byt i =>
    obtain ⟨t, rfl⟩ := rx
    cases y with
    | byt j => obtain ⟨t', rfl⟩ := ry; exact PySem.W.ne_bytes (fin_bl I q (congrArg not dec_byt))
    | _ => exact absurd (show false = true from hs) Bool.false_ne_true
  | _ => cases y <;> exact absurd (show false = true from hs) Bool.false_ne_true

theorem op_lt : OpR X (compareOp .Lt) (rI0 fun i j => .bl (decide (i < j))) := opB0 fun _ _ _ _ _ _ _ q => lt_int q
theorem op_le : OpR X (compareOp .LtE) (rI0 fun i j => .bl (decide (i ≤ j))) := opB0 fun _ _ _ _ _ _ _ q => le_int q
theorem op_gt : OpR X (compareOp .Gt) (rI0 fun i j => .bl (decide (j < i))) := opB0 fun _ _ _ _ _ _ _ q => gt_int q
/-- the one string within the other -/
theorem op_in_str : OpR X (compareOp .In) (fun x y H Q => ∃ i j, x = .str i ∧ y = .str j ∧ Q (.bl (!(Builtin.Str.occurrences j i 0 j.length 1).isEmpty)) H) := by
  intro pins s σ H x y v u Q I rx ry h
  obtain ⟨i, j, rfl, rfl, q⟩ := h
  obtain ⟨t, rfl⟩ := rx
  obtain ⟨t', rfl⟩ := ry
  exact in_str (fin_bl I q rfl)

/-- is None, is not None: the right side a value none -/
theorem op_isN : OpR X (compareOp .Is) (fun x y H Q => y = .non ∧ Q (.bl (decide (x = .non))) H) := by
  intro pins s σ H x y v u Q I rx ry h
  obtain ⟨rfl, q⟩ := h
  cases ry
  refine is_none_gen (fin_bl I q ?_)
  cases x <;> first
    | (cases rx; rfl)
    | (obtain ⟨t, rfl⟩ := rx; rfl)
theorem nomark (b : Expr) {op : CmpOp} (h : op ≠ .In := by decide) (h2 : op ≠ .NotIn := by decide) : behindInMarks op b = false := by
  have e1 : (op == CmpOp.In) = false := by cases op <;> first | rfl | exact absurd rfl h
  have e2 : (op == CmpOp.NotIn) = false := by cases op <;> first | rfl | exact absurd rfl h2
  cases b <;> simp [behindInMarks, e1, e2]
/-- a comparison as a value; hm: nomark b, or (for in, not in) by with_unfolding_all rfl -/
theorem pe_cmpR {op : CmpOp} {r : R2} (ho : OpR X (compareOp op) r) (ha : PE X a ta) (hb : PE X b tb) (hm : behindInMarks op b = false) : PE X (.Compare a [op] [b] pos) (tOp r ta tb) := by
  intro pins s σ H Q I h
  exact wpAny_Compare1 (binT ha hb I h fun v u s2 x y H2 I2 rx ry q => ho pins s2 σ H2 x y v u Q I2 rx ry q) hm
/-- a reading of a value as a test -/
def tTest (t : TE) : TT := fun σ H Q => t σ H fun x H' => ∃ k, x = .bl k ∧ Q k H'
theorem pt_cmpR {op : CmpOp} {r : R2} (ho : OpR X (compareOp op) r) (ha : PE X a ta) (hb : PE X b tb) (hm : behindInMarks op b = false) : PT X (.Compare a [op] [b] pos) (tTest (tOp r ta tb)) := by
  intro pins s σ H Q I h
  refine wpAny_isTrue_Compare1 (thn (ha pins s σ H _ I h) fun v s1 ⟨x, H1, I1, r1, q1⟩ => thn (hb pins s1 σ H1 _ I1 q1) fun u s2 ⟨y, H2, I2, r2, q2⟩ =>
    thn (ho pins s2 σ H2 x y v u _ I2 r1 r2 q2) fun c s3 ⟨z, H3, I3, r3, k, e, q3⟩ => ?_) hm
  subst e
  cases r3
  exact wpAny_truthy_bool ⟨H3, I3, q3⟩
/-- a op1 b op2 c -/
def tChain (r r' : R2) (ta tb tc : TE) : TE := fun σ H Q => ta σ H fun x H1 => tb σ H1 fun y H2 => r x y H2 fun z H3 => ∃ k, z = .bl k ∧
  (if k = true then tc σ H3 fun w' H4 => r' y w' H4 Q else Q (.bl false) H3)
theorem pe_chain {op op' : CmpOp} {r r' : R2} (ho : OpR X (compareOp op) r) (ho' : OpR X (compareOp op') r') (ha : PE X a ta) (hb : PE X b tb) (hc : PE X c tc)
    (hm : lastMarks [op, op'] [b, c] = false := by with_unfolding_all rfl) : PE X (.Compare a [op, op'] [b, c] pos) (tChain r r' ta tb tc) := by
  intro pins s σ H Q I h
  refine Compare_chain (thn (ha pins s σ H _ I h) fun v s1 ⟨x, H1, I1, r1, q1⟩ => chain_link (thn (hb pins s1 σ H1 _ I1 q1) fun u s2 ⟨y, H2, I2, r2, q2⟩ =>
    thn (ho pins s2 σ H2 x y v u _ I2 r1 r2 q2) fun d s3 ⟨z, H3, I3, r3, k, e, q3⟩ => ?_)) hm
  subst e
  cases r3
  refine wpAny_truthy_bool ?_
  cases k with
  | false => exact ite_ff ⟨.bl false, H3, I3, rfl, q3⟩
  | true => exact ite_tt (chain_last (thn (hc pins s3 σ H3 _ I3 q3) fun w' s4 ⟨z', H4, I4, r4, q4⟩ => ho' pins s4 σ H4 y z' u w' Q I4 r2 r4 q4))
theorem line63 : (sizeLine : Nat) < 2 ^ 63 := by rw [sizeLine_eq]; decide
theorem op_add_str : OpR X (binaryOp .Add) (fun x y H Q => ∃ i j, x = .str i ∧ y = .str j ∧ i.length + j.length ≤ sizeLine ∧ Q (.str (i ++ j)) H) := by
  intro pins s σ H x y v u Q I rx ry h
  obtain ⟨i, j, rfl, rfl, hz, q⟩ := h
  obtain ⟨t, rfl⟩ := rx
  obtain ⟨t', rfl⟩ := ry
  exact add_str (fun t' tk => ⟨.str (i ++ j), H, I.tok _, ⟨_, rfl⟩, q⟩) hz
/-! ### scalar builtins, by CallR -/
theorem vals1 {x : V} {us : List Value} (r : Vals [x] us) : ∃ u, us = [u] ∧ RelV x u := by
  cases r with
  | cons r1 r2 => cases r2; exact ⟨_, rfl, r1⟩
theorem vals2 {x y : V} {us : List Value} (r : Vals [x, y] us) : ∃ u w', us = [u, w'] ∧ RelV x u ∧ RelV y w' := by
  cases r with
  | cons r1 r2 =>
    cases r2 with
    | cons r3 r4 => cases r4; exact ⟨_, _, rfl, r1, r3⟩
theorem call_str_int : CallR X (.type "str") (fun xs H Q => ∃ i, xs = [.int i] ∧ i.natAbs.log2 < 1920 ∧ Q (.str (toString i)) H) := by
  intro pins s σ H xs us Q I r h
  obtain ⟨i, rfl, hz, q⟩ := h
  obtain ⟨u, rfl, t, rfl⟩ := vals1 r
  exact PySem.P.str_of_int hz ⟨.str _, H, I.tok _, ⟨_, rfl⟩, q⟩
end
end L2

namespace L2
open PySem PySem.Spec PyProof.Rows

/-! ### an instance, its attributes a map -/
structure ObjM (h : Heap) (x dx C : Addr) (mA : Str → Option Value) : Prop where
  obj : h.get? x = some (PySem.W.instObj C dx)
  ns : h.Ns1 dx mA
  ne : dx ≠ x

theorem lookIn_ns {h : Heap} {dx : Addr} {mA : Str → Option Value} (n : h.Ns1 dx mA) : ∃ od, h.get? dx = some od ∧ ∀ name, PySem.W.lookIn name od = some (mA name) := by
  obtain ⟨o, es, ep, ho, hd, hk, _, hm⟩ := n
  refine ⟨o, ho, fun name => ?_⟩
  have e := hm name
  unfold nsFind findBy at e
  rw [← Array.find?_toList] at e
  unfold PySem.W.lookIn
  rw [hd]
  dsimp only
  split
  · rename_i y q
    rw [q] at e
    exact congrArg some e
  · rename_i q
    rw [q] at e
    have a : es.toList.any (·.refKey) = false := by
      rw [List.any_eq_false]
      intro y hy
      obtain ⟨z, t, hkey⟩ := hk y (Array.mem_toList_iff.mp hy)
      simp [DictEntry.refKey, hkey]
    have a' : ¬ es.toList.any (·.refKey) = true := by rw [a]; exact Bool.false_ne_true
    rw [if_neg a']
    exact congrArg some e

theorem ObjM.look {h : Heap} {x dx C : Addr} {mA : Str → Option Value} (I : ObjM h x dx C mA) : ∃ od, PySem.W.InstAt h x (PySem.W.instObj C dx) C (some od) ∧ ∀ name, PySem.W.lookIn name od = some (mA name) :=
  let ⟨od, ho, hl⟩ := lookIn_ns I.ns
  ⟨od, ⟨I.obj, rfl, rfl, ho⟩, hl⟩

section
variable {prog : Program} {w : World} {A : Around} {E : Value → Shared → Prop} {s : Shared} {K : PySem.W.Frag} {x dx C f : Addr} {mA : Str → Option Value} {name : Str} {v : Value}

end

theorem RelO.some_of {v : V} {o : Option Value} (r : RelO (some v) o) : ∃ u, o = some u ∧ RelV v u := by
  cases o with
  | none => exact (show False from r).elim
  | some u => exact ⟨u, rfl, r⟩
theorem RelO.none_of {o : Option Value} (r : RelO none o) : o = none := by
  cases o with
  | none => rfl
  | some u => exact (show False from r).elim
section
variable {P : Program} {w : World} {H H' : Hp} {h h' : Heap} {a C dx : Addr} {fs fs' : List (Str × V)}
theorem ins_get (hok : HOk P w H h) (e : H a = some (.ins C dx fs)) : ∃ mA, ObjM h a dx C mA ∧ (∀ f, RelO (fs.lookup f) (mA f)) ∧ PySem.Within mA (fs.map (·.1)) ∧ fs.length ≤ 1000 ∧ H dx = some (.own a) := by
  obtain ⟨d, z, ne, ob, mA, n, r, q⟩ := (show ObjOk P w H h a (.ins C dx fs) from hok a _ e)
  exact ⟨mA, ⟨ob, n, ne⟩, r, q, z, d⟩
end

/-! ### what of the text a class must have -/
structure Cls (K : PySem.W.Frag) (C : Addr) : Prop where
  pg : PySem.W.plainGet K C Str.empty = true
  hd : PySem.W.hasDictIn K C = true
  po : PySem.W.plainOver K C = true
  sa : PySem.W.findIn K (.ref C) "__setattr__" = some (some (.builtin "object.__setattr__"))
theorem Cls.get {K : PySem.W.Frag} {C : Addr} (c : Cls K C) (f : Str) : PySem.W.plainGet K C f = true := c.pg
/-- a constant of the class -/
structure Con (K : PySem.W.Frag) (C : Addr) (f : Str) (v : V) (u : Value) : Prop where
  at_ : PySem.W.findIn K (.ref C) f = some (some u)
  rel : RelV v u
  get : PySem.W.specialIn K u "__get__" = some none
  cp : PySem.W.copiedNames.contains f = false
/-- a method: a plain def of the class or of one above it -/
structure Meth (K : PySem.W.Frag) (C : Addr) (m : Str) (f : Addr) : Prop where
  at_ : PySem.W.findIn K (.ref C) m = some (some (.ref f))
  fn : PySem.W.isFn K (.ref f) = true
  kp : PySem.W.keepIn K (.ref f) = true

section
variable {X : Cx} {pins : List (Addr × Obj)} {σ : St} {H : Hp} {s : Shared} {a C dx : Addr} {fs : List (Str × V)} {f : Str} {v : V} {A : Around} {E : Value → Shared → Prop}

end

section
variable {X : Cx} {o e value : Expr} {f : Str} {pos pos' tpos : Pos} {ta tv : TE}
end

/-! ### isinstance -/
section
variable {X : Cx} {pins : List (Addr × Obj)} {σ : St} {H : Hp} {s : Shared} {A : Around} {E : Value → Shared → Prop} {Q : Value → Shared → Prop} {c : Value} {b : Bool}
/-- the type of a value, as the fragment's deciders take it; for an instance its class -/
inductive TyOf (K : PySem.W.Frag) (H : Hp) : V → Value → Prop where
  | non : TyOf K H .non (.type "NoneType")
  | bl (x : Bool) : TyOf K H (.bl x) (.type "bool")
  | int (i : Int) : TyOf K H (.int i) (.type "int")
  | str (x : Str) : TyOf K H (.str x) (.type "str")
  | flt (x : UInt64) : TyOf K H (.flt x) (.type "float")
  | lst {a : Addr} {xs : List V} (e : H a = some (.lst xs)) : TyOf K H (.ref a) (.type "list")
  | frz {a : Addr} {o : Obj} {xs : List V} (e : H a = some (.frz o (.lst xs))) : TyOf K H (.ref a) (.type "list")
  | tup {a : Addr} {xs : List V} (e : H a = some (.tup xs)) : TyOf K H (.ref a) (.type "tuple")
  | dK {a : Addr} {kvs : List (Key × V)} (e : H a = some (.dK kvs)) : TyOf K H (.ref a) (.type "dict")
  | dT {a : Addr} {kvs : List (List Key × V)} (e : H a = some (.dT kvs)) : TyOf K H (.ref a) (.type "dict")
  | ins {a C dx : Addr} {fs : List (Str × V)} (e : H a = some (.ins C dx fs)) (cl : Cls K C) (ha : PySem.W.findIn K (.ref C) "__class__" = some (some (.builtin "object.__class__")))
      (hn : PySem.W.specialIn K (.builtin "object.__class__") "__get__" = some (some (.builtin "getset_descriptor.__get__"))) (htk : PySem.W.takesIn K (.builtin "object.__class__") = some true)
      (hm : PySem.W.mroIn K C (.type "object") = some true) : TyOf K H (.ref a) (.ref C)
/-- isinstance(x, c) for one class c, a built-in or an own one: kitOne's answer -/
theorem isinst_ok {x : V} {u t : Value} (I : Inv X pins σ H s) (rx : RelV x u) (ty : TyOf X.K H x t) (e : PySem.W.kitOne X.K t c = some b) (h : ∀ tk, Q (.bool b) { s with toks := tk }) :
    wpAny (model X.prog X.w) A (call (.builtin "isinstance") [u, c]) Q E s := by
  cases ty with
  | non => cases (show u = Value.none from rx); exact PySem.W.kia_one PySem.W.kitx_none I.kIn True.intro e (fun z => nomatch z) h
  | bl y => cases (show u = Value.bool y from rx); exact PySem.W.kia_one PySem.W.kitx_bool I.kIn True.intro e (fun z => nomatch z) h
  | int i => obtain ⟨t, q⟩ := (show ∃ t, u = Value.int i t from rx); cases q; exact PySem.W.kia_one PySem.W.kitx_int I.kIn True.intro e (fun z => nomatch z) h
  | str y => obtain ⟨t, q⟩ := (show ∃ t, u = Value.str y t from rx); cases q; exact PySem.W.kia_one PySem.W.kitx_str I.kIn True.intro e (fun z => nomatch z) h
  | flt y => obtain ⟨t, q⟩ := (show ∃ t, u = Value.float y t from rx); cases q; exact PySem.W.kia_one PySem.W.kitx_float I.kIn True.intro e (fun z => nomatch z) h
  | @lst a xs ea =>
    cases (show u = Value.ref a from rx)
    obtain ⟨_, _, n, _, h1⟩ := (show ObjOk X.prog X.w H s.heap a (.lst xs) from I.hok a _ ea)
    exact PySem.W.kia_one PySem.W.kitx_list I.kIn ⟨_, h1, rfl⟩ e (fun z => nomatch z) h
  | @frz a ob xs ea =>
    cases (show u = Value.ref a from rx)
    obtain ⟨_, _, _, n, _, h1⟩ := (show ObjOk X.prog X.w H s.heap a (.frz ob (.lst xs)) from I.hok a _ ea)
    exact PySem.W.kia_one PySem.W.kitx_list I.kIn ⟨_, h1, rfl⟩ e (fun z => nomatch z) h
  | @tup a xs ea =>
    cases (show u = Value.ref a from rx)
    obtain ⟨_, _, _, p⟩ := (show ObjOk X.prog X.w H s.heap a (.tup xs) from I.hok a _ ea)
    obtain ⟨o, h1, h2, _⟩ := p
    exact PySem.W.kia_one PySem.W.kitx_tuple I.kIn ⟨o, h1, h2⟩ e (fun z => nomatch z) h
  | @dK a kvs ea =>
    cases (show u = Value.ref a from rx)
    obtain ⟨_, _, vs, _, p⟩ := (show ObjOk X.prog X.w H s.heap a (.dK kvs) from I.hok a _ ea)
    obtain ⟨o, es, ep, h1, h2, _⟩ := p
    exact PySem.W.kia_one PySem.W.kitx_dict I.kIn ⟨o, h1, h2.1⟩ e (fun z => nomatch z) h
  | @dT a kvs ea =>
    cases (show u = Value.ref a from rx)
    obtain ⟨_, _, xs, _, o, es, ep, h1, h2, _⟩ := (show ObjOk X.prog X.w H s.heap a (.dT kvs) from I.hok a _ ea)
    exact PySem.W.kia_one PySem.W.kitx_dict I.kIn ⟨o, h1, h2.1⟩ e (fun z => nomatch z) h
  | @ins a C dx fs ea cl ha hn htk hm =>
    cases (show u = Value.ref a from rx)
    obtain ⟨mA, O, _⟩ := ins_get I.hok ea
    obtain ⟨od, J, _⟩ := O.look
    exact PySem.W.kia_one (PySem.W.kitx_own (cl.get _) cl.hd ha hn htk hm) I.kIn J e (fun z => nomatch z) h
end
end L2

namespace L2
open PySem PySem.Spec PyProof.Rows

/-! ### room -/
structure Room (k : Nat) (A : Around) : Prop where
  hd : A.handled = none
  dp : A.depth + 3 * k + 5 < recursionLimit
  un : A.units + 16 * k + 200 < cLine
theorem Room.mono {j k : Nat} {A : Around} (r : Room k A) (h : j ≤ k) : Room j A := ⟨r.hd, by have := r.dp; omega, by have := r.un; omega⟩
theorem Room.deeper {k : Nat} {A : Around} (r : Room (k + 1) A) (env : Env) : Room k (A.deeper env) :=
  ⟨r.hd, by have := r.dp; show A.depth + 1 + 3 * k + 5 < _; omega, by have := r.un; show A.units + 3 + 16 * k + 200 < _; omega⟩
theorem Room.in1 {k : Nat} {A : Around} (r : Room (k + 1) A) : Room k A.in1 :=
  ⟨r.hd, by have := r.dp; show A.depth + 3 * k + 5 < _; omega, by have := r.un; show A.units + 1 + 16 * k + 200 < _; omega⟩
theorem Room.depth {k : Nat} {A : Around} (r : Room k A) : A.depth < recursionLimit := by have := r.dp; omega
theorem Room.units {k : Nat} {A : Around} (r : Room k A) : A.units + 64 < cLine := by have := r.un; omega
/-! ### argument lists and displays -/
def tNil : TA := fun _ H Q => Q [] H
def tCons (ta : TE) (tr : TA) : TA := fun σ H Q => ta σ H fun x H1 => tr σ H1 fun xs H2 => Q (x :: xs) H2
section
variable {X : Cx} {e : Expr} {es : List Expr} {te : TE} {t : TA} {pos : Pos}
theorem pa_nil : PA X [] tNil := fun _ _ _ _ H Q I h => Calls.spliced_nil ⟨[], H, I, .nil, h⟩
theorem pa_cons (ha : PE X e te) (hr : PA X es t) (hs : starEach (e :: es) X.env = (false, eval e X.env) :: starEach es X.env := by rfl) : PA X (e :: es) (tCons te t) := by
  intro pos pins s σ H Q I h
  rw [hs]
  show wpAny _ _ (spliced ((false, eval e X.env) :: backTo pos (starEach es X.env))) _ _ s
  refine Calls.spliced_cons (thn (ha pins s σ H _ I h) fun u s1 ⟨x, H1, I1, r1, q1⟩ => ?_)
  exact thn (hr pos pins s1 σ H1 _ I1 q1) fun us s2 ⟨xs, H2, I2, r2, q2⟩ => ⟨x :: xs, H2, I2, .cons r1 r2, q2⟩

/-- a tuple, a list of written items -/
def tTup (t : TA) : TE := fun σ H Q => t σ H fun xs H1 => xs.length ≤ sizeLine ∧ ∀ p, H1 p = none → Q (.ref p) (upd H1 p (.tup xs))
def tLst (t : TA) : TE := fun σ H Q => t σ H fun xs H1 => xs.length ≤ sizeLine ∧ ∀ p, H1 p = none → Q (.ref p) (upd H1 p (.lst xs))
theorem pe_tup {x1} (h : PA X es t) : PE X (.Tuple es x1 pos) (tTup t) := by
  intro pins s σ H Q I hq
  refine wpAny_Tuple_spliced (thn (h pos pins s σ H _ I hq) fun us s1 ⟨xs, H1, I1, r, z, q⟩ => ⟨by rw [← r.length]; exact z, ?_⟩)
  have hf : H1 s1.heap.objs.size = none := I1.hok.fresh (Nat.le_refl _)
  refine ⟨.ref s1.heap.objs.size, upd H1 s1.heap.objs.size (.tup xs), I1.laid (t' := s1.toks) (fun b u e => Heap.get?_push_of_some _ e) (Nat.le_refl _) ?_, rfl, q _ hf⟩
  exact ⟨z, us, r, ⟨_, Heap.get?_push_size _ rfl, rfl, _, rfl⟩⟩
theorem pe_lst (h : PA X es t) : PE X (.List es pos) (tLst t) := by
  intro pins s σ H Q I hq
  refine wpAny_List_spliced (thn (h pos pins s σ H _ I hq) fun us s1 ⟨xs, H1, I1, r, z, q⟩ => ⟨by rw [← r.length]; exact z, ?_⟩)
  have hf : H1 s1.heap.objs.size = none := I1.hok.fresh (Nat.le_refl _)
  refine ⟨.ref s1.heap.objs.size, upd H1 s1.heap.objs.size (.lst xs), I1.laid (t' := s1.toks) (fun b u e => Heap.get?_push_of_some _ e) (Nat.le_refl _) ?_, rfl, q _ hf⟩
  exact ⟨z, us, 0, r, Heap.get?_push_size _ rfl⟩
end

/-! ### what a def promises -/
/-- a def's promise: the bound arguments in the parameters' order, the heap, the wanted end, the wanted exception -/
abbrev Sp := List V → Hp → VK → XK → Prop
/-- how an exception lies behind a call (file 08 gives it): the callers' frames, abstract heap and state ahead of the call, the wish, the exception, the state -/
abbrev CXT := List Env → Hp → Shared → XK → Value → Shared → Prop

/-- the state at a call -/
structure Env0 (P : Program) (w : World) (K : PySem.W.Frag) (mg : Str → Option Value) (base : Heap) (A : Around) (outer : List Env) (s : Shared) (H : Hp) : Prop where
  frames : A.frames = some outer
  mod : Mod K mg base
  bs : ∀ b o, base.get? b = some o → s.heap.get? b = some o ∧ H b = none
  bsz : base.objs.size ≤ s.heap.objs.size
  funs : s.heap.FunFrames base outer
  frf : ∀ b ∈ frs outer, H b = none
  hok : HOk P w H s.heap
  bare : AllBare s.gens
/-- a call's end -/
def CE (outer : List Env) (P : Program) (w : World) (H : Hp) (s : Shared) (Q : VK) (u : Value) (s' : Shared) : Prop :=
  ∃ v H', s'.os = s.os ∧ AllBare s'.gens ∧ Un (frs outer) [] H H' s.heap s'.heap ∧ HOk P w H' s'.heap ∧ RelV v u ∧ Q v H'
def CR (CX : CXT) (outer : List Env) (P : Program) (w : World) (H : Hp) (s : Shared) (Q : VK) (E : XK) (r : Result) (s' : Shared) : Prop :=
  match r with
  | .ok (.ret u) => CE outer P w H s Q u s'
  | .ok _ => False
  | .error e => CX outer H s E e s'
structure FnOk (P : Program) (w : World) (K : PySem.W.Frag) (mg : Str → Option Value) (base : Heap) (CX : CXT) (k : Nat) (f : Addr) (fd : FuncData) (ps : List Str) (sp : Sp) : Prop where
  len : ∀ vs H Q E, sp vs H Q E → vs.length = ps.length
  run : ∀ (A : Around) (outer : List Env) (s : Shared) (H : Hp) (args : Args) (us : List Value) (vs : List V) (Q : VK) (E : XK), Room k A → Env0 P w K mg base A outer s H → BindsTo s fd args (ps.zip us) → Vals vs us → sp vs H Q E →
    codeAny (model P w) A (.call (.ref f) args) (CR CX outer P w H s Q E) s
theorem FnOk.mono {P : Program} {w : World} {K : PySem.W.Frag} {mg : Str → Option Value} {base : Heap} {CX : CXT} {j k : Nat} {f : Addr} {fd : FuncData} {ps : List Str} {sp : Sp} (F : FnOk P w K mg base CX j f fd ps sp) (h : j ≤ k) :
    FnOk P w K mg base CX k f fd ps sp := ⟨F.len, fun A outer s H args us vs Q E hr => F.run A outer s H args us vs Q E (hr.mono h)⟩
theorem Env0.in1 {P : Program} {w : World} {K : PySem.W.Frag} {mg : Str → Option Value} {base : Heap} {A : Around} {outer : List Env} {s : Shared} {H : Hp} (e : Env0 P w K mg base A outer s H) :
    Env0 P w K mg base A.in1 outer s H := ⟨e.frames, e.mod, e.bs, e.bsz, e.funs, e.frf, e.hok, e.bare⟩

section
variable {X : Cx} {pins : List (Addr × Obj)} {σ : St} {H : Hp} {s s' : Shared}
/-- from a body: what a callee wants -/
theorem Inv.env0 (I : Inv X pins σ H s) : Env0 X.prog X.w X.K X.mg X.base X.A X.stack s H :=
  ⟨I.ok.frames, I.ok.mod, I.bs, Nat.le_trans I.ok.bsz I.sz, I.stack, I.stkFree, I.hok, I.bare⟩
/-- behind a call -/
theorem Inv.after {Q : VK} {u : Value} (I : Inv X pins σ H s) (h : CE X.stack X.prog X.w H s Q u s') : EP X pins σ Q u s' := by
  obtain ⟨v, H', os, bare, un, hok, r, q⟩ := h
  obtain ⟨hh, g, d, t, os'⟩ := s'
  obtain rfl : os' = s.os := os
  exact ⟨v, H', I.call (h' := hh) (g' := g) (d' := d) (t' := t) (ch := []) un hok bare (fun b z => absurd z (by simp)), r, q⟩
end

/-! ### calls -/
/-- f(..): the written arguments, then the defaults dvs; E: what is wanted of an exception -/
def tCall (sp : Sp) (dvs : List V) (E : XK) (t : TA) : TE := fun σ H Q => t σ H fun vs H1 => sp (vs ++ dvs) H1 Q E
/-- how the parameters are bound: us the positional arguments, kw the keywords' values by name, ds the defaults that fill up -/
def Binds (K : PySem.W.Frag) (fd : FuncData) (ps : List Str) (ds : List Value) : Prop :=
  ∀ (s : Shared) (us : List Value), K.In s.heap → (us ++ ds).length = ps.length → BindsTo s fd ⟨us, []⟩ (ps.zip (us ++ ds))
/-- every parameter is given -/
theorem Binds.all {K : PySem.W.Frag} {fd : FuncData} {ps : List Str} (h : ∀ us : List Value, us.length = ps.length → bindArgs fd ⟨us, []⟩ = pure (ps.zip us)) : Binds K fd ps [] := fun s us _ hl => by
  rw [List.append_nil] at hl ⊢
  exact .of_eq (h us hl)

/-- an exception of a callee reaches what this body wants of exceptions -/
def Passes (CX : CXT) (X : Cx) (E : XK) : Prop := ∀ (pins : List (Addr × Obj)) (σ : St) (H : Hp) (s : Shared) (e : Value) (s' : Shared), Inv X pins σ H s → CX X.stack H s E e s' → X.xe e s'

section
variable {X : Cx} {CX : CXT} {k : Nat} {f C : Addr} {fd : FuncData} {ps : List Str} {sp : Sp} {dvs : List V} {ds : List Value} {E : XK} {x m : Str} {p pos apos : Pos} {e o : Expr} {es : List Expr} {ta : TE} {t : TA}

/-- the callee runs -/
theorem run_fn {pins : List (Addr × Obj)} {σ : St} {H : Hp} {s : Shared} {Q : VK} {us : List Value} {vs : List V} (F : FnOk X.prog X.w X.K X.mg X.base CX k f fd ps sp) (hr : Room k X.A) (hb : Binds X.K fd ps ds) (hd : Vals dvs ds) (hx : Passes CX X E)
    (I : Inv X pins σ H s) (r : Vals vs us) (h : sp (vs ++ dvs) H Q E) : wpAny (model X.prog X.w) X.A (call (.ref f) us) (EP X pins σ Q) X.xe s := by
  have r2 : Vals (vs ++ dvs) (us ++ ds) := r.append hd
  have hl : (us ++ ds).length = ps.length := by rw [← r2.length]; exact F.len _ _ _ _ h
  refine wpAny_call (codeAny_mono (F.run X.A X.stack s H ⟨us, []⟩ (us ++ ds) (vs ++ dvs) Q E hr I.env0 (hb s us I.kIn hl) r2 h) fun r s' hq => ?_)
  cases r with
  | error e => exact hx pins σ H s e s' I hq
  | ok fl =>
    cases fl with
    | ret u => exact I.after hq
    | next => exact False.elim hq
    | brk => exact False.elim hq
    | cont => exact False.elim hq

theorem pe_call (F : FnOk X.prog X.w X.K X.mg X.base CX k f fd ps sp) (hr : Room k X.A) (hg : Gl X x) (hm : X.mg x = some (.ref f)) (hk : PySem.W.keepIn X.K (.ref f) = true) (hb : Binds X.K fd ps ds) (hd : Vals dvs ds) (hx : Passes CX X E)
    (ha : PA X (e :: es) t) (hdb : (x == ("__debug__" : Str)) = false := by decide) (he : starEach (e :: es) X.env = (false, eval e X.env) :: starEach es X.env := by rfl) (hpl : (backTo pos (starEach es X.env)).any (·.1) = false := by rfl) :
    PE X (.Call (.Name x p) (e :: es) [] pos) (tCall sp dvs E t) := by
  intro pins s σ H Q I h
  refine wpAny_Call_Name_kw (ld_glob I hg hm ?_ hdb)
  refine PySem.W.callWith_K (h₀ := X.base) I.ok.mod.kin hk (thn (ha pos pins s σ H _ I h) fun us s1 ⟨vs, H1, I1, r, q⟩ => ⟨I1.kIn, ?_⟩) he hpl
  exact run_fn F hr hb hd hx I1 r q
theorem pe_call0 (F : FnOk X.prog X.w X.K X.mg X.base CX k f fd ps sp) (hr : Room k X.A) (hg : Gl X x) (hm : X.mg x = some (.ref f)) (hk : PySem.W.keepIn X.K (.ref f) = true) (hb : Binds X.K fd ps ds) (hd : Vals dvs ds) (hx : Passes CX X E)
    (hdb : (x == ("__debug__" : Str)) = false := by decide) : PE X (.Call (.Name x p) [] [] pos) (tCall sp dvs E tNil) := by
  intro pins s σ H Q I h
  refine wpAny_Call_Name_kw (ld_glob I hg hm ?_ hdb)
  exact PySem.W.callWith_K0 I.kIn hk (run_fn (us := []) F hr hb hd hx I .nil h)

/-- what a class must have to be made -/
structure Mk (K : PySem.W.Frag) (C f : Addr) : Prop where
  makes : PySem.W.makesIn K C = true
  init : PySem.W.findIn K (.ref C) "__init__" = some (some (.ref f))
  fn : PySem.W.isFn K (.ref f) = true
  kp : PySem.W.keepIn K (.ref C) = true

end

section
variable {X : Cx} {CX : CXT} {k : Nat} {f C : Addr} {fd : FuncData} {ps ks : List Str} {sp : Sp} {E : XK} {x m : Str} {p pos apos kpos : Pos} {e o : Expr} {es : List Expr} {kws : List Keyword} {te ta : TE} {t tk : TA} {nm : Option Str}
/-- how a call with keywords binds: g puts the positional values us and the keywords' values ws (names ks) in the parameters' order, defaults among them -/
structure KBinds (K : PySem.W.Frag) (fd : FuncData) (ps ks : List Str) (g : List Value → List Value → List Value) (gV : List V → List V → List V) : Prop where
  to : ∀ (s : Shared) (us ws : List Value), K.In s.heap → (g us ws).length = ps.length → BindsTo s fd ⟨us, ks.zip ws⟩ (ps.zip (g us ws))
  rel : ∀ {vs : List V} {us : List Value} {zs : List V} {ws : List Value}, Vals vs us → Vals zs ws → Vals (gV vs zs) (g us ws)
variable {g : List Value → List Value → List Value} {gV : List V → List V → List V}
end

/-! ### a def's body keeps its promise -/
/-- names: the parameters first -/
structure FnScope (N P : List Str) (sc : Scope) : Prop where
  kind : sc.kind = .function
  co : sc.isCoroutine = false
  gen : sc.isGenerator = false
  nd : N.Nodup
  pre : N.take P.length = P
  par : ∀ x ∈ P, sc.names.lookup x = some .local ∨ sc.names.lookup x = some .cell
  nofree : ∀ y ∈ sc.names, y.2 ≠ .free

theorem bindL_out {kindOf : Str → Option NameKind} {x : Str} : ∀ {binds : List (Str × Value)} {m : Str → Option Value}, (∀ v, (x, v) ∉ binds) → bindL kindOf binds m x = m x
  | [], _, _ => rfl
  | (n, v) :: r, m, h => by
    unfold bindL
    rw [bindL_out fun w hw => h w (List.mem_cons_of_mem _ hw)]
    split
    · have : x ≠ n := by rintro rfl; exact h v List.mem_cons_self
      simp [this]
    · rfl
theorem bindC_out {kindOf : Str → Option NameKind} {x : Str} : ∀ {binds : List (Str × Value)} {m : Str → Option Value}, (∀ v, (x, v) ∉ binds) → bindC kindOf binds m x = m x
  | [], _, _ => rfl
  | (n, v) :: r, m, h => by
    unfold bindC
    rw [bindC_out fun w hw => h w (List.mem_cons_of_mem _ hw)]
    split
    · rfl
    · have : x ≠ n := by rintro rfl; exact h v List.mem_cons_self
      simp [this]
theorem bindL_get {kindOf : Str → Option NameKind} {x : Str} {v : Value} : ∀ {P : List Str} {vs : List Value} {i : Nat} {m : Str → Option Value}, P.Nodup → P[i]? = some x → vs[i]? = some v → kindOf x = some .local →
    bindL kindOf (P.zip vs) m x = some v
  | [], _, _, _, _, h, _, _ => by simp at h
  | _ :: _, [], _, _, _, _, h, _ => by simp at h
  | p :: P, w :: vs, 0, m, nd, h1, h2, hk => by
    simp at h1 h2; subst h1; subst h2
    show bindL kindOf ((p, w) :: P.zip vs) m p = _
    unfold bindL
    rw [bindL_out fun v hv => (List.nodup_cons.mp nd).1 (List.of_mem_zip hv).1, if_pos hk]
    simp
  | p :: P, w :: vs, i + 1, m, nd, h1, h2, hk => by
    show bindL kindOf ((p, w) :: P.zip vs) m x = _
    unfold bindL
    exact bindL_get (i := i) (List.nodup_cons.mp nd).2 (by simpa using h1) (by simpa using h2) hk
theorem bindC_get {kindOf : Str → Option NameKind} {x : Str} {v : Value} : ∀ {P : List Str} {vs : List Value} {i : Nat} {m : Str → Option Value}, P.Nodup → P[i]? = some x → vs[i]? = some v → kindOf x ≠ some .local →
    bindC kindOf (P.zip vs) m x = some v
  | [], _, _, _, _, h, _, _ => by simp at h
  | _ :: _, [], _, _, _, _, h, _ => by simp at h
  | p :: P, w :: vs, 0, m, nd, h1, h2, hk => by
    simp at h1 h2; subst h1; subst h2
    show bindC kindOf ((p, w) :: P.zip vs) m p = _
    unfold bindC
    rw [bindC_out fun v hv => (List.nodup_cons.mp nd).1 (List.of_mem_zip hv).1, if_neg hk]
    simp
  | p :: P, w :: vs, i + 1, m, nd, h1, h2, hk => by
    show bindC kindOf ((p, w) :: P.zip vs) m x = _
    unfold bindC
    exact bindC_get (i := i) (List.nodup_cons.mp nd).2 (by simpa using h1) (by simpa using h2) hk

/-- the names' values at the entry -/
def start (N : List Str) (vs : List V) : St := vs.map some ++ List.replicate (N.length - vs.length) none

/-- the context of a def's body, at its entry; an exception leaves the frame, then lies as CX says -/
def cxOf (CX : CXT) (P : Program) (w : World) (K : PySem.W.Frag) (mg : Str → Option Value) (base : Heap) (N : List Str) (qual : Str) (scope : Scope) (f : Addr) (cd : Value) (A : Around) (outer : List Env) (s : Shared) (H : Hp) (E : XK) : Cx where
  prog := P
  w := w
  K := K
  mg := mg
  base := base
  A := A.deeper (envOfC qual scope s.heap.objs.size f cd)
  N := N
  s₀ := s
  H₀ := H
  env := envOfC qual scope s.heap.objs.size f cd
  outer := outer
  stack := envOfC qual scope s.heap.objs.size f cd :: outer
  ex := []
  calm := true
  fn := fun _ => true
  pn := []
  xe := fun e s' => wpAny (model P w) (A.deeper (envOfC qual scope s.heap.objs.size f cd)) (leaving (envOfC qual scope s.heap.objs.size f cd) e) (fun _ s'' => CX outer H s E e s'') (fun e' s'' => CX outer H s E e' s'') s'

theorem cell_has {sc : Scope} {n : Nat} {x : Str} (h : sc.names.lookup x = some .cell) : ∃ c, (cellsFrom n sc.names []).lookup x = some c := by
  have q := PySem.W.cellsFrom_some sc.names n [] (.inl h)
  exact Option.isSome_iff_exists.mp q

theorem inv_start {CX : CXT} {P : Program} {w : World} {K : PySem.W.Frag} {mg : Str → Option Value} {base : Heap} {N ps : List Str} {qual : Str} {scope : Scope} {f : Addr} {cd : Value} {A : Around} {outer : List Env} {s s1 : Shared} {H : Hp} {E : XK} {us : List Value} {vs : List V}
    (S : FnScope N ps scope) (hd : A.handled = none) (e0 : Env0 P w K mg base A outer s H) (hl : vs.length = ps.length) (r : Vals vs us)
    (x : InCallC s s.heap.objs.size (bindL (envOfC qual scope s.heap.objs.size f cd).kindOf (ps.zip us) fun _ => none) (cellsFrom (s.heap.objs.size + 1) scope.names []) (bindC (envOfC qual scope s.heap.objs.size f cd).kindOf (ps.zip us) fun _ => none) s1) :
    Inv (cxOf CX P w K mg base N qual scope f cd A outer s H E) [] (start N vs) H s1 := by
  have hpl : ps.length ≤ N.length := by have := congrArg List.length S.pre; rw [List.length_take] at this; omega
  obtain ⟨h1, tk, rfl, hk⟩ := x.done
  have noA : ∀ b : Addr, b ∉ (cxOf CX P w K mg base N qual scope f cd A outer s H E).ex := fun b z => absurd (show b ∈ ([] : List Addr) from z) (by simp)
  refine ⟨⟨e0.mod, S.kind, rfl, rfl, Nat.le_refl _, fun y z c h1 h2 => ?_, fun y hy => ?_, fun y c _ h => ?_, fun _ => hd, Around.frames_deeper e0.frames, .inr ⟨rfl, rfl⟩, fun b z => absurd z (noA b), e0.bs, e0.bsz, fun b _ _ => noA b, fun b z => absurd z (noA b), e0.funs, e0.frf⟩,
    rfl, e0.bare, Un.kept hk, ⟨_, x.toInCall.ns, fun i y v h1 h2 h3 => ?_⟩, fun y c h => ⟨_, x.cell y c h⟩, e0.hok.fresh (Nat.le_refl _), fun y c h => ?_, fun p hp => absurd (show p ∈ ([] : List (Addr × Obj)) from hp) (by simp), e0.hok.kept hk, ?_⟩
  · exact name_of_addr x.apart (PySem.mem_of_lookup h1) (PySem.mem_of_lookup h2)
  · have hy : scope.names.lookup y = some .cell ∨ scope.names.lookup y = some .free := hy
    rcases hy with hy | hy
    · exact cell_has hy
    · exact absurd rfl (S.nofree _ (PySem.mem_of_lookup hy))
  · exact Nat.le_of_lt (x.above y c (PySem.mem_of_lookup h))
  · have hi : i < vs.length := by
      unfold start at h2
      by_cases hi : i < vs.length
      · exact hi
      · rw [List.getElem?_append_right (by simpa using hi)] at h2
        rw [List.getElem?_replicate] at h2
        split at h2 <;> cases h2
    have ha : vs[i]? = some v := by
      unfold start at h2
      rw [List.getElem?_append_left (by simpa using hi), List.getElem?_map] at h2
      cases e : vs[i]? with
      | none => rw [e] at h2; cases h2
      | some a => rw [e] at h2; cases h2; rfl
    obtain ⟨u, hu, rv⟩ := r.get ha
    have hp : ps[i]? = some y := by
      rw [← S.pre, List.getElem?_take_of_lt (by omega)]; exact h1
    have ndP : ps.Nodup := by rw [← S.pre]; exact S.nd.sublist (List.take_sublist _ _)
    refine ⟨u, rv, ?_⟩
    rcases S.par y (List.mem_of_getElem? hp) with k | k
    · exact .inl ⟨k, bindL_get ndP hp hu k⟩
    · obtain ⟨c, e⟩ := cell_has (n := s.heap.objs.size + 1) k
      refine .inr ⟨.inl k, c, e, ?_⟩
      have q := x.cell y c e
      rw [bindC_get ndP hp hu (by show scope.names.lookup y ≠ _; rw [k]; decide)] at q
      exact q
  · exact e0.hok.fresh (Nat.le_of_lt (x.above y c (PySem.mem_of_lookup h)))
  · unfold start
    show _ = N.length
    rw [List.length_append, List.length_map, List.length_replicate]
    omega

/-- THE RULE: a def (or a method) of the text, by its body. The body's reading t is chosen for each entry; it is run at the parameters' values -/
theorem fn_of {CX : CXT} {P : Program} {w : World} {K : PySem.W.Frag} {mg : Str → Option Value} {base : Heap} {k : Nat} {f : Addr} {name qual : Str} {params : Arguments} {body : List Stmt} {scope : Scope} {dV kV doc pm cdv ct oc : Value} {an od : Option Addr}
    {osl : Array (Option Value)} {N ps : List Str} {sp : Sp} (lk : K.lookup f = some ⟨oc, od, .func (PySem.W.fnOf name qual params body scope dV kV doc pm an cdv ct), osl⟩) (hcd : PySem.W.codeIn K cdv qual = true) (S : FnScope N ps scope)
    (len : ∀ vs H Q E, sp vs H Q E → vs.length = ps.length)
    (hbody : ∀ (A : Around) (outer : List Env) (s : Shared) (H : Hp) (vs : List V) (Q : VK) (E : XK), Room k (A.deeper (envOfC qual scope s.heap.objs.size f cdv)) → sp vs H Q E →
      ∃ t, PSs (cxOf CX P w K mg base N qual scope f cdv A outer s H E) body t ∧ t { nx := fun _ H' => Q .non H', rt := Q } (start N vs) H) :
    FnOk P w K mg base CX (k + 1) f (PySem.W.fnOf name qual params body scope dV kV doc pm an cdv ct) ps sp := by
  refine ⟨len, fun A outer s H args us vs Q E hr e0 hb r hsp => ?_⟩
  have hl := len _ _ _ _ hsp
  have KX : K.In s.heap := e0.mod.kin.keeps fun b o e => (e0.bs b o e).1
  have lim : s.heap.NoLimit := e0.mod.nolimit.keeps fun b o e => (e0.bs b o e).1
  have hkind : ∀ y ∈ ps.zip us, scope.names.lookup y.1 = some .local ∨ (scope.names.lookup y.1 = some .cell ∧ ((cellsFrom (s.heap.objs.size + 1) scope.names []).lookup y.1).isSome = true) := fun ⟨n, v⟩ hy => by
    rcases S.par n (List.of_mem_zip hy).1 with q | q
    · exact .inl q
    · exact .inr ⟨q, PySem.W.cellsFrom_some _ _ _ (.inl q)⟩
  refine codeAny_call_function hr.depth (KX _ _ lk) rfl S.co S.gen rfl (PySem.W.codeRec_of KX hcd) (hb _ _ _ _ ?_)
  refine wpAny_newFunctionEnv_cells S.kind hkind fun env he s1 x => ?_
  subst he
  refine ⟨lim.keeps x.toInCall.keep, codeAny_func ?_⟩
  obtain ⟨t, ht, hq⟩ := hbody A outer s H vs Q E (hr.deeper _) hsp
  have I : Inv (cxOf CX P w K mg base N qual scope f cdv A outer s H E) [] (start N vs) H s1 := inv_start S hr.hd e0 hl r x
  refine wpAny_mono (ht [] s1 (start N vs) H _ I hq) (fun fl s' hs => ?_) fun e s' hs => hs
  have fin : ∀ {σ' : St} {H' : Hp} {v : V} {u : Value}, Inv (cxOf CX P w K mg base N qual scope f cdv A outer s H E) [] σ' H' s' → RelV v u → Q v H' → CE outer P w H s Q u s' :=
    fun {σ' H' v u} J rv q => ⟨v, H', J.os, J.bare, J.base, J.hok, rv, q⟩
  cases fl with
  | ret u =>
    obtain ⟨v, σ', H', J, rv, q⟩ := hs
    exact fin J rv q
  | next =>
    obtain ⟨σ', H', J, q⟩ := hs
    exact fin (v := V.non) (u := Value.none) J rfl q
  | brk =>
    obtain ⟨_, _, _, q⟩ := hs
    exact False.elim q
  | cont =>
    obtain ⟨_, _, _, q⟩ := hs
    exact False.elim q
end L2

namespace L2
open PySem PySem.Spec PyProof.Rows
section
variable {X : Cx} {x : Str} {p pos : Pos} {e : Expr} {es : List Expr} {t : TA} {id T : String} {r : List V → Hp → VK → Prop}

def tCB (r : List V → Hp → VK → Prop) (t : TA) : TE := fun σ H Q => t σ H fun vs H1 => r vs H1 Q
/-- f(e, ..), f a built-in function -/
theorem pe_callB (hc : CallR X (.builtin id) r) (hg : Gl X x) (hm : X.mg x = none) (hv : bootBuiltins x = some (.builtin id)) (ha : PA X (e :: es) t) (hn : x ≠ "__name__" := by decide) (hdb : (x == ("__debug__" : Str)) = false := by decide)
    (he : starEach (e :: es) X.env = (false, eval e X.env) :: starEach es X.env := by rfl) (hpl : (backTo pos (starEach es X.env)).any (·.1) = false := by rfl) : PE X (.Call (.Name x p) (e :: es) [] pos) (tCB r t) := by
  intro pins s σ H Q I h
  refine wpAny_Call_Name_kw (ld_blt I hg hm hv ?_ hn hdb)
  exact PyProof.Rows.callWith_builtin1 (thn (ha pos pins s σ H _ I h) fun us s1 ⟨vs, H1, I1, r1, q1⟩ => hc pins s1 σ H1 vs us Q I1 r1 q1) he hpl
/-- T(e, ..), T a built-in type -/
theorem pe_callTy (hc : CallR X (.type T) r) (hg : Gl X x) (hm : X.mg x = none) (hv : bootBuiltins x = some (.type T)) (ha : PA X (e :: es) t) (hn : x ≠ "__name__" := by decide) (hdb : (x == ("__debug__" : Str)) = false := by decide)
    (he : starEach (e :: es) X.env = (false, eval e X.env) :: starEach es X.env := by rfl) (hpl : (backTo pos (starEach es X.env)).any (·.1) = false := by rfl) : PE X (.Call (.Name x p) (e :: es) [] pos) (tCB r t) := by
  intro pins s σ H Q I h
  refine wpAny_Call_Name_kw (ld_blt I hg hm hv ?_ hn hdb)
  exact PyProof.Rows.callWith_type1 (thn (ha pos pins s σ H _ I h) fun us s1 ⟨vs, H1, I1, r1, q1⟩ => hc pins s1 σ H1 vs us Q I1 r1 q1) he hpl
end
end L2

namespace HT
open PySem PyProof.Rows

section
open PySem.SeqAt
open PySem.AutoSeq1 (wpAny_loadPart')
open PySem.MeetsSeq PySem.MeetsSeq2 PySem.MeetsSeq3

end

section
variable {prog : Program} {w : World} {A : Around} {E : Value → Shared → Prop} {s : Shared}

/-! ### t[a:b], not the whole -/
/-- a slice's bound as a place among n (d where it is left out) -/
def sIx (n d : Nat) : Option Int → Nat
  | none => d
  | some v => if v < 0 then (v + (n : Int)).toNat else min v.toNat n
theorem sIx_le (n d : Nat) (hd : d ≤ n) (o : Option Int) : sIx n d o ≤ n := by
  cases o with
  | none => exact hd
  | some v =>
    show (if v < 0 then (v + (n : Int)).toNat else min v.toNat n) ≤ n
    by_cases hv : v < 0
    · rw [if_pos hv]; omega
    · rw [if_neg hv]; exact Nat.min_le_right _ _
end
end HT

namespace L2
open PySem PySem.Spec PyProof.Rows

/-! ### the parts of a slice -/
abbrev TO := St → Hp → (Option Int → Hp → Prop) → Prop
/-- a slice's part (left out, or an int) -/
def PO (X : Cx) (e : Option Expr) (t : TO) : Prop :=
  ∀ (pins : List (Addr × Obj)) (s : Shared) (σ : St) (H : Hp) (Q : Option Int → Hp → Prop), Inv X pins σ H s → t σ H Q →
    wpAny (model X.prog X.w) X.A (evalPart e X.env) (fun u s' => ∃ o H', Inv X pins σ H' s' ∧ IsPart u o ∧ Q o H') X.xe s
def tNoPart : TO := fun _ H Q => Q none H
def tPart (t : TE) : TO := fun σ H Q => t σ H fun x H1 => ∃ i, x = .int i ∧ Q (some i) H1

theorem intsAre_of {ns : List Int} : ∀ {us : List Value}, Vals (ns.map V.int) us → IntsAre us ns := by
  induction ns with
  | nil => intro us r; rw [List.map_nil] at r; cases r; exact .nil
  | cons n ns ih =>
    intro us r
    rw [List.map_cons] at r
    cases r with
    | cons r1 r2 =>
      obtain ⟨t, e⟩ := r1
      subst e
      exact .cons n t (ih r2)

section
variable {X : Cx} {e : Expr} {te : TE} {lo hi : Option Expr} {tl th : TO} {pos p2 : Pos}

theorem po_none : PO X none tNoPart := by
  intro pins s σ H Q I h
  rw [evalPart_none]
  exact wpAny_pure ⟨none, H, I, .none, h⟩
theorem po_some (h : PE X e te) : PO X (some e) (tPart te) := by
  intro pins s σ H Q I hw
  rw [evalPart_some]
  refine thn (h pins s σ H _ I hw) fun u s1 ⟨x, H1, I1, r1, q1⟩ => ?_
  obtain ⟨i, rfl, q⟩ := q1
  obtain ⟨t, rfl⟩ := r1
  exact ⟨some i, H1, I1, .int i t, q⟩

/-- what a slice of a value is, by values: the slice object stands at sl -/
def SlR (X : Cx) (r : V → Option Int → Option Int → Hp → VK → Prop) : Prop :=
  ∀ (pins : List (Addr × Obj)) (s : Shared) (σ : St) (H : Hp) (x : V) (v vl vu : Value) (lo hi : Option Int) (sl : Addr) (Q : VK), Inv X pins σ H s → RelV x v → s.heap.IsSliceOf sl vl vu .none → IsPart vl lo → IsPart vu hi → r x lo hi H Q →
    ∃ T id, typeLookup (.type T) "__getitem__" = pure (some (.builtin id)) ∧ s.TypeIs v T ∧ wpAny (model X.prog X.w) X.A (getItem v (.ref sl)) (EP X pins σ Q) X.xe s
def tSl (r : V → Option Int → Option Int → Hp → VK → Prop) (te : TE) (tl th : TO) : TE := fun σ H Q => te σ H fun x H1 => tl σ H1 fun l H2 => th σ H2 fun u H3 => r x l u H3 Q
/-- a[lo:hi], any a -/
theorem pe_slice {r : V → Option Int → Option Int → Hp → VK → Prop} (hr : SlR X r) (he : PE X e te) (hl : PO X lo tl) (hu : PO X hi th) : PE X (.Subscript e (.Slice lo hi none p2) pos) (tSl r te tl th) := by
  intro pins s σ H Q I h
  refine Subscript_ (thn (he pins s σ H _ I h) fun v s1 ⟨x, H1, I1, r1, q1⟩ => ?_)
  refine wpAny_Slice (thn (hl pins s1 σ H1 _ I1 q1) fun vl s2 ⟨l, H2, I2, pl, q2⟩ => thn (hu pins s2 σ H2 _ I2 q2) fun vu s3 ⟨u, H3, I3, pu, q3⟩ => ?_)
  rw [evalPart_none]
  refine wpAny_pure ?_
  have I4 : Inv X pins σ H3 { s3 with heap := s3.heap.push { cls := .type "slice", data := .fields #[vl, vu, .none] } } := I3.kept (t' := s3.toks) fun b ob q => Heap.get?_push_of_some _ q
  obtain ⟨T, id, hT, ht, hg⟩ := hr pins { s3 with heap := s3.heap.push { cls := .type "slice", data := .fields #[vl, vu, .none] } } σ H3 x v vl vu l u s3.heap.objs.size Q I4 r1 (Heap.IsSliceOf.new ..) pl pu q3
  show wpAny (model X.prog X.w) X.A (subscriptTail e (.Slice lo hi none p2) v (.ref s3.heap.objs.size)) (EP X pins σ Q) X.xe { s3 with heap := s3.heap.push { cls := .type "slice", data := .fields #[vl, vu, .none] } }
  exact tail_any (ops := [.ref s3.heap.objs.size, v]) ht hT hg (by with_unfolding_all rfl)

end
end L2

namespace L2
open PySem PySem.Spec PyProof.Rows

/-! ### places -/
/-- the place that an index of any sign means -/
def ixN (n : Nat) (i : Int) : Option Nat := if 0 ≤ i then (if i < n then some i.toNat else none) else if -(n : Int) ≤ i then some (i + n).toNat else none
def atI {α : Type} (xs : List α) (i : Int) : Option α := (ixN xs.length i).bind fun j => xs[j]?
theorem ixN_seq {n : Nat} {i : Int} {j : Nat} (h : ixN n i = some j) : seqIndex? i n = some j ∧ j < n ∧ -(n : Int) ≤ i ∧ i < n := by
  unfold ixN at h
  by_cases h0 : 0 ≤ i
  · rw [if_pos h0] at h
    by_cases h1 : i < n
    · rw [if_pos h1] at h
      have e : i.toNat = j := Option.some.inj h
      exact ⟨by rw [seqIndex_of h0 h1, e], by omega, by omega, h1⟩
    · rw [if_neg h1] at h; cases h
  · rw [if_neg h0] at h
    by_cases h1 : -(n : Int) ≤ i
    · rw [if_pos h1] at h
      have e : (i + n).toNat = j := Option.some.inj h
      exact ⟨by rw [seqIndex_neg (by omega) h1, e], by omega, h1, by omega⟩
    · rw [if_neg h1] at h; cases h
theorem atI_get {α : Type} {xs : List α} {i : Int} {v : α} (h : atI xs i = some v) : ∃ j, seqIndex? i xs.length = some j ∧ xs[j]? = some v ∧ j < xs.length ∧ -(xs.length : Int) ≤ i ∧ i < xs.length := by
  unfold atI at h
  cases e : ixN xs.length i with
  | none => rw [e] at h; cases h
  | some j =>
    rw [e] at h
    obtain ⟨h1, h2, h3, h4⟩ := ixN_seq e
    exact ⟨j, h1, h, h2, h3, h4⟩
theorem atI_nat {α : Type} {xs : List α} {j : Nat} {v : α} (h : xs[j]? = some v) : atI xs (j : Int) = some v := by
  have hj : j < xs.length := (List.getElem?_eq_some_iff.mp h).1
  have e : ixN xs.length (j : Int) = some j := by
    unfold ixN
    rw [if_pos (by omega), if_pos (by omega)]; simp
  unfold atI; rw [e]; exact h
/-! ### what may be subscripted -/
/-- what stands as an index of a plain subscript -/
def PlainIx (b : Expr) : Prop := ∀ o i, subscripted b false o i = operate [o, i] (getItem o i)
/-- a subscript by values -/
def IxR (X : Cx) (r : R2) : Prop :=
  ∀ (value slice : Expr) (pins : List (Addr × Obj)) (s : Shared) (σ : St) (H : Hp) (x y : V) (v u : Value) (Q : VK), Inv X pins σ H s → RelV x v → RelV y u → r x y H Q →
    subscripted slice false v u = operate [v, u] (getItem v u) → wpAny (model X.prog X.w) X.A (subscriptTail value slice v u) (EP X pins σ Q) X.xe s
/-- a call of a builtin's method by values: the receiver, the arguments -/
def MtR (X : Cx) (id : String) (r : V → List V → Hp → VK → Prop) : Prop :=
  ∀ (pins : List (Addr × Obj)) (s : Shared) (σ : St) (H : Hp) (x : V) (xs : List V) (v : Value) (us : List Value) (Q : VK), Inv X pins σ H s → RelV x v → Vals xs us → r x xs H Q →
    wpAny (model X.prog X.w) X.A (call (.builtin id) (v :: us)) (EP X pins σ Q) X.xe s
section
variable {X : Cx} {a b : Expr} {ta tb : TE} {pos : Pos}
/-- a[b] -/
theorem pe_ix {r : R2} (hr : IxR X r) (ha : PE X a ta) (hb : PE X b tb) (hs : PlainIx b) : PE X (.Subscript a b pos) (tOp r ta tb) := by
  intro pins s σ H Q I h
  exact Subscript_ (binT ha hb I h fun v u s2 x y H2 I2 rx ry q => hr a b pins s2 σ H2 x y v u Q I2 rx ry q (hs _ _))

def rIxL (K : PySem.W.Frag) : R2 := fun x y H Q => ∃ p xs i v, x = .ref p ∧ y = .int i ∧ SqL K H p xs ∧ atI xs i = some v ∧ Q v H
def rIxT (K : PySem.W.Frag) : R2 := fun x y H Q => ∃ p xs i v, x = .ref p ∧ y = .int i ∧ SqT K H p xs ∧ atI xs i = some v ∧ Q v H
def rIxS : R2 := fun x y H Q => ∃ z i c, x = .str z ∧ y = .int i ∧ z.length ≤ sizeLine ∧ atI z.cps.toList i = some c ∧ Q (.str ⟨#[c]⟩) H
theorem ix_list : IxR X (rIxL X.K) := by
  intro value slice pins s σ H x y v u Q I rx ry h hs
  obtain ⟨p, xs, i, z, rfl, rfl, hq, he, q⟩ := h
  cases rx
  obtain ⟨t, rfl⟩ := ry
  obtain ⟨its, r, pl, hz⟩ := I.list hq
  obtain ⟨j, h1, h2, h3, h4, h5⟩ := atI_get he
  obtain ⟨w, ew, rw'⟩ := r.get h2
  have hl := r.length
  have hn := line63
  have fin : EP X pins σ Q w s := ⟨z, H, I, rw', q⟩
  by_cases h0 : 0 ≤ i
  · have hj : i.toNat = j := by
      rw [seqIndex_of h0 h5] at h1
      exact Option.some.inj h1
    exact item_listR pl.isList h0 (by omega) (by rw [hj]; simpa using ew) fin hs
  · have hj : (i + (its.toArray.size : Int)).toNat = j := by
      rw [seqIndex_neg (by omega) h4] at h1
      rw [List.size_toArray, ← hl]
      exact Option.some.inj h1
    exact subscriptTail_builtinR (x := w) pl.isList.typeIs slot_list_getitem.lookup
      (wpAny_getItem_list_neg (Q := fun r s' => r = w ∧ EP X pins σ Q r s') pl.isList (by omega) (by rw [List.size_toArray] <;> omega) (by omega) (by rw [hj]; simpa using ew) ⟨rfl, fin⟩) hs
theorem ix_tup : IxR X (rIxT X.K) := by
  intro value slice pins s σ H x y v u Q I rx ry h hs
  obtain ⟨p, xs, i, z, rfl, rfl, hq, he, q⟩ := h
  cases rx
  obtain ⟨t, rfl⟩ := ry
  obtain ⟨its, r, pl, hz⟩ := I.tuple hq
  obtain ⟨j, h1, h2, h3, h4, h5⟩ := atI_get he
  obtain ⟨w, ew, rw'⟩ := r.get h2
  have hl := r.length
  have hn := line63
  have fin : EP X pins σ Q w s := ⟨z, H, I, rw', q⟩
  exact subscriptTail_builtinR (x := w) pl.typeIs slot_tuple_getitem.lookup
    (getItem_tuple (j := j) (Q := fun r s' => r = w ∧ EP X pins σ Q r s') pl (by omega) (by omega) (by rw [List.size_toArray, ← hl]; exact h1) (by simpa using ew) ⟨rfl, fin⟩) hs
theorem ix_str : IxR X rIxS := by
  intro value slice pins s σ H x y v u Q I rx ry h hs
  obtain ⟨z, i, c, rfl, rfl, hz, he, q⟩ := h
  obtain ⟨t, rfl⟩ := rx
  obtain ⟨t', rfl⟩ := ry
  obtain ⟨j, h1, h2, h3, h4, h5⟩ := atI_get he
  have hl : z.cps.toList.length = z.length := by simp [Str.length]
  rw [hl] at h1 h4 h5
  have hn := line63
  exact tail_any (typeIs_str s z t) slot_str_getitem.lookup (getItem_str (c := c) (by
    have e1 : decide (i < -(2 ^ 63 : Int)) = false := decide_eq_false (by omega)
    have e2 : decide (i ≥ 2 ^ 63) = false := decide_eq_false (by omega)
    rw [e1, e2, Bool.or_false]) (by rw [h1]; simpa using h2) ⟨.str ⟨#[c]⟩, H, I.tok _, ⟨_, rfl⟩, q⟩) hs
theorem Inv.lst {pins : List (Addr × Obj)} {σ : St} {H : Hp} {s : Shared} {p : Addr} {xs : List V} (I : Inv X pins σ H s) (h : H p = some (.lst xs)) :
    ∃ (its : List Value) (n : Nat), Vals xs its ∧ s.heap.get? p = some { cls := .type "list", data := .seq its.toArray n } ∧ xs.length ≤ sizeLine := by
  obtain ⟨z, its, n, r, e⟩ := I.hok p _ h
  exact ⟨its, n, r, e, z⟩
/-! ### in, not in: flat items -/
def flatV : V → Bool
  | .non => true
  | .bl _ => true
  | .int _ => true
  | .str _ => true
  | _ => false
/-- == of flat values -/
def eqV : V → V → Bool
  | .non, .non => true
  | .bl a, .bl b => a == b
  | .bl a, .int b => (if a then 1 else 0) == b
  | .int a, .bl b => a == (if b then 1 else 0)
  | .int a, .int b => a == b
  | .str a, .str b => a == b
  | _, _ => false
theorem eqAt_V {A : Around} {s : Shared} {y x : V} {u v : Value} (ry : RelV y u) (rx : RelV x v) (fy : flatV y = true) (fx : flatV x = true) : SeqAt.EqAt A s u v (eqV y x) := by
  cases y with
  | non =>
    cases ry
    cases x with
    | non => cases rx; exact SeqAt.EqAt.same _
    | bl b => cases rx; exact SeqAt.EqAt.none_bool b
    | int b => obtain ⟨t, rfl⟩ := rx; exact SeqAt.EqAt.none_int b t
    | str b => obtain ⟨t, rfl⟩ := rx; exact SeqAt.EqAt.none_str b t
    | _ => exact absurd (show false = true from fx) Bool.false_ne_true
  | bl a =>
    cases ry
    cases x with
    | non => cases rx; exact SeqAt.EqAt.bool_none a
    | bl b => cases rx; exact SeqAt.EqAt.bool_bool a b
    | int b => obtain ⟨t, rfl⟩ := rx; exact SeqAt.EqAt.bool_int a b t
    | str b => obtain ⟨t, rfl⟩ := rx; exact SeqAt.EqAt.bool_str a b t
    | _ => exact absurd (show false = true from fx) Bool.false_ne_true
  | int a =>
    obtain ⟨t', rfl⟩ := ry
    cases x with
    | non => cases rx; exact SeqAt.EqAt.int_none a t'
    | bl b => cases rx; exact SeqAt.EqAt.int_bool a t' b
    | int b => obtain ⟨t, rfl⟩ := rx; exact SeqAt.EqAt.int_int a t' b t
    | str b => obtain ⟨t, rfl⟩ := rx; exact SeqAt.EqAt.int_str a t' b t
    | _ => exact absurd (show false = true from fx) Bool.false_ne_true
  | str a =>
    obtain ⟨t', rfl⟩ := ry
    cases x with
    | non => cases rx; exact SeqAt.EqAt.str_none a t'
    | bl b => cases rx; exact SeqAt.EqAt.str_bool a t' b
    | int b => obtain ⟨t, rfl⟩ := rx; exact SeqAt.EqAt.str_int a t' b t
    | str b => obtain ⟨t, rfl⟩ := rx; exact SeqAt.EqAt.str_str a t' b t
    | _ => exact absurd (show false = true from fx) Bool.false_ne_true
  | _ => exact absurd (show false = true from fy) Bool.false_ne_true
/-- the items' answers, read off the values (a value's own answer does not lean on its token) -/
def eqU (x : V) (u : Value) : Bool := match u with
  | .none => eqV .non x
  | .bool b => eqV (.bl b) x
  | .int i _ => eqV (.int i) x
  | .str z _ => eqV (.str z) x
  | _ => false
theorem eqU_of {x y : V} {u : Value} (r : RelV y u) (f : flatV y = true) : eqU x u = eqV y x := by
  cases y with
  | non => cases r; rfl
  | bl b => cases r; rfl
  | int i => obtain ⟨t, rfl⟩ := r; rfl
  | str z => obtain ⟨t, rfl⟩ := r; rfl
  | _ => exact absurd (show false = true from f) Bool.false_ne_true
theorem any_eqU {x : V} : ∀ {xs : List V} {us : List Value}, Vals xs us → xs.all flatV = true → us.any (eqU x) = xs.any fun y => eqV y x
  | _, _, .nil, _ => rfl
  | y :: xs, u :: us, .cons r t, f => by
    rw [List.all_cons, Bool.and_eq_true] at f
    rw [List.any_cons, List.any_cons, eqU_of r f.1, any_eqU t f.2]
theorem mem_eqAt {A : Around} {s : Shared} {x : V} {v : Value} (rx : RelV x v) (fx : flatV x = true) : ∀ {xs : List V} {us : List Value}, Vals xs us → xs.all flatV = true → ∀ u ∈ us, SeqAt.EqAt A s u v (eqU x u)
  | _, _, .nil, _ => fun u hu => by cases hu
  | y :: xs, u :: us, .cons r t, f => fun u' hu => by
    rw [List.all_cons, Bool.and_eq_true] at f
    rcases List.mem_cons.mp hu with rfl | hu
    · rw [eqU_of r f.1]; exact eqAt_V r rx f.1 fx
    · exact mem_eqAt rx fx t f.2 u' hu
def inV (x : V) (xs : List V) : Bool := xs.any fun y => eqV y x
/-- x in a list or tuple of flat items -/
def rIn (K : PySem.W.Frag) (neg : Bool) : R2 := fun x y H Q => ∃ p xs, y = .ref p ∧ (SqL K H p xs ∨ SqT K H p xs) ∧ flatV x = true ∧ xs.all flatV = true ∧ Q (.bl (if neg then !inV x xs else inV x xs)) H
theorem op_in_seq : OpR X (compareOp .In) (rIn X.K false) := by
  intro pins s σ H x y v u Q I rx ry h
  obtain ⟨p, xs, rfl, hq, fx, fs, q⟩ := h
  cases ry
  rcases hq with hq | hq
  · obtain ⟨its, r, pl, hz⟩ := I.list hq
    refine SeqAt.in_listAt (eqU x) pl.isList (fun w hw => mem_eqAt rx fx r fs w (by simpa using hw)) ⟨.bl _, H, I, rfl, ?_⟩
    rw [show its.toArray.any (eqU x) = its.any (eqU x) by simp, any_eqU r fs]
    exact q
  · obtain ⟨its, r, pl, hz⟩ := I.tuple hq
    refine SeqAt.in_tupleAt (eqU x) pl (fun w hw => mem_eqAt rx fx r fs w (by simpa using hw)) ⟨.bl _, H, I, rfl, ?_⟩
    rw [show its.toArray.any (eqU x) = its.any (eqU x) by simp, any_eqU r fs]
    exact q
/-! ### len, list(x), tuple(x) of any list or tuple that is read -/
theorem call_len_seq : CallR X (.builtin "len") (fun xs H Q => ∃ p ys, xs = [.ref p] ∧ (SqL X.K H p ys ∨ SqT X.K H p ys) ∧ Q (.int ys.length) H) := by
  intro pins s σ H xs us Q I r h
  obtain ⟨p, ys, rfl, hq, q⟩ := h
  obtain ⟨u, rfl, rx⟩ := vals1 r
  cases rx
  have hn := line63
  rcases hq with hq | hq
  · obtain ⟨its, r', pl, hz⟩ := I.list hq
    have hlen := r'.length
    exact Calls.call_len_list pl.isList (by simp only [List.size_toArray] <;> omega) ⟨.int ys.length, H, I.tok _, ⟨s.toks + 1, by rw [List.size_toArray, hlen]⟩, q⟩
  · obtain ⟨its, r', pl, hz⟩ := I.tuple hq
    have hlen := r'.length
    exact len_tuple pl (by simp only [List.size_toArray] <;> omega) ⟨.int ys.length, H, I.tok _, ⟨s.toks + 1, by rw [List.size_toArray, hlen]⟩, q⟩
theorem call_len_str : CallR X (.builtin "len") (fun xs H Q => ∃ z, xs = [.str z] ∧ z.length ≤ sizeLine ∧ Q (.int z.length) H) := by
  intro pins s σ H xs us Q I r h
  obtain ⟨z, rfl, hz, q⟩ := h
  obtain ⟨u, rfl, t, rfl⟩ := vals1 r
  have hn := line63
  exact len_str (by omega) ⟨.int z.length, H, I.tok _, ⟨_, rfl⟩, q⟩
theorem call_list_of : CallR X (.type "list") (fun xs H Q => ∃ p ys, xs = [.ref p] ∧ (SqL X.K H p ys ∨ SqT X.K H p ys) ∧ ∀ l, H l = none → Q (.ref l) (upd H l (.lst ys))) := by
  intro pins s σ H xs us Q I r h
  obtain ⟨p, ys, rfl, hq, q⟩ := h
  obtain ⟨u, rfl, rx⟩ := vals1 r
  cases rx
  have fin : ∀ (its : List Value), Vals ys its → ys.length ≤ sizeLine → ∀ (h' : Heap) (c' : Nat), (∀ b o', s.heap.get? b = some o' → h'.get? b = some o') →
      h'.get? s.heap.objs.size = some { cls := .type "list", dict := none, data := .seq its.toArray c', slots := #[] } → EP X pins σ Q (.ref s.heap.objs.size) { s with heap := h' } := fun its r' hz h' c' kp e =>
    ⟨.ref s.heap.objs.size, _, I.laid (t' := s.toks) kp (Nat.le_refl _) (show ObjOk X.prog X.w _ h' _ (.lst ys) from ⟨hz, its, c', r', e⟩), rfl, q _ (I.hok.fresh (Nat.le_refl _))⟩
  rcases hq with hq | hq
  · obtain ⟨its, r', pl, hz⟩ := I.list hq
    have hlen := r'.length
    obtain ⟨o, ho, hc, n, hd⟩ := pl.isList
    exact call_list_seq p (.inl rfl) ho hc hd (fun h' c' kp e => fin its r' hz h' c' kp e) (by simp only [List.size_toArray] <;> omega)
  · obtain ⟨its, r', pl, hz⟩ := I.tuple hq
    have hlen := r'.length
    obtain ⟨o, ho, hc, n, hd⟩ := pl
    exact call_list_seq p (.inr rfl) ho hc hd (fun h' c' kp e => fin its r' hz h' c' kp e) (by simp only [List.size_toArray] <;> omega)
/-! ### the call of a builtin's method: o.m(..) -/
/-- the value is of that builtin type -/
def tyV (K : PySem.W.Frag) (T : String) (x : V) (H : Hp) : Prop := match x with
  | .str _ => T = "str"
  | .int _ => T = "int"
  | .ref p => (T = "list" ∧ ∃ xs, SqL K H p xs) ∨ (T = "tuple" ∧ ∃ o, K.lookup p = some o ∧ o.cls = .type "tuple" ∧ o.dict = none) ∨
      (T = "dict" ∧ ((∃ kvs, H p = some (.dK kvs)) ∨ ∃ kvs, H p = some (.dT kvs))) ∨ (T = "set" ∧ ∃ S n, H p = some (.set S n))
  | _ => False
theorem tyV_is {pins : List (Addr × Obj)} {σ : St} {H : Hp} {s : Shared} {T : String} {x : V} {v : Value} (I : Inv X pins σ H s) (r : RelV x v) (ty : tyV X.K T x H) :
    s.TypeIs v T ∧ ∀ a, v = .ref a → ∃ ob, s.heap.get? a = some ob ∧ ob.dict = none := by
  cases x with
  | str z =>
    obtain ⟨t, rfl⟩ := r
    cases (show T = "str" from ty)
    exact ⟨typeIs_str s z t, fun _ e => nomatch e⟩
  | int i =>
    obtain ⟨t, rfl⟩ := r
    cases (show T = "int" from ty)
    exact ⟨typeIs_int s i t, fun _ e => nomatch e⟩
  | ref p =>
    cases r
    rcases ty with ⟨rfl, xs, hq⟩ | ⟨rfl, o, hk, hc, hd⟩ | ⟨rfl, hk⟩ | ⟨rfl, S, n, hk⟩
    · obtain ⟨its, _, pl, _⟩ := I.list hq
      refine ⟨pl.isList.typeIs, fun a e => ?_⟩
      cases e
      obtain ⟨o, n, e, c, hd, _⟩ := pl
      exact ⟨o, e, hd⟩
    · refine ⟨⟨o, I.kIn p o hk, hc⟩, fun a e => ?_⟩
      cases e
      exact ⟨o, I.kIn _ o hk, hd⟩
    · have z : ∃ o, s.heap.get? p = some o ∧ o.ExactDict := by
        rcases hk with ⟨kvs, hk⟩ | ⟨kvs, hk⟩
        · obtain ⟨_, _, _, _, o, _, _, e, ex, _⟩ := I.hok p _ hk
          exact ⟨o, e, ex⟩
        · obtain ⟨_, _, _, _, o, _, _, e, ex, _⟩ := I.hok p _ hk
          exact ⟨o, e, ex⟩
      obtain ⟨o, e, ex⟩ := z
      refine ⟨⟨o, e, ex.1⟩, fun a e2 => ?_⟩
      cases e2
      exact ⟨o, e, ex.2.1⟩
    · obtain ⟨o, _, _, _, e, ex, _⟩ := I.hok p _ hk
      refine ⟨⟨o, e, ex.1⟩, fun a e2 => ?_⟩
      cases e2
      exact ⟨o, e, ex.2.1⟩
  | _ => exact False.elim ty
def tBM (K : PySem.W.Frag) (T : String) (r : V → List V → Hp → VK → Prop) (to : TE) (t : TA) : TE := fun σ H Q => to σ H fun x H1 => tyV K T x H1 ∧ t σ H1 fun xs H2 => r x xs H2 Q
variable {o e : Expr} {es : List Expr} {to : TE} {t : TA} {name : Str} {apos cpos : Pos} {T id : String} {r : V → List V → Hp → VK → Prop}
theorem pe_bm (pa : PlainAttrs T) (slot : Slot T name id) (hty : typeOf (.builtin id) = pure (.type "method_descriptor")) (hm : MtR X id r) (ho : PE X o to) (ha : PA X (e :: es) t)
    (hbase : attributeBase o name X.env (eval o X.env) = eval o X.env := by rfl)
    (hfew : ((backTo cpos (starEach (e :: es) X.env)).all (fun x => !x.1) && (backToKw cpos (keywordEach [] X.env)).all (fun x => x.1.isSome)
      && decide ((e :: es).length + ([] : List Keyword).length + (if ([] : List Keyword).isEmpty then 0 else 1) < 30)) = true := by rfl)
    (hline : (apos.endLine == cpos.line) = true := by rfl) (hs : starEach (e :: es) X.env = (false, eval e X.env) :: starEach es X.env := by rfl) (hplain : (backTo cpos (starEach es X.env)).any (·.1) = false := by rfl) :
    PE X (.Call (.Attribute o name apos) (e :: es) [] cpos) (tBM X.K T r to t) := by
  intro pins s σ H Q I h
  refine wpAny_Call_method_late hbase hfew hline rfl (thn (ho pins s σ H _ I h) fun v s1 ⟨x, H1, I1, r1, ty, q1⟩ => ?_)
  obtain ⟨h1, h2⟩ := tyV_is I1 r1 ty
  refine ⟨T, id, pa, slot, hty, h1, h2, ?_⟩
  have hA := ha cpos pins s1 σ H1 _ I1 q1
  rw [hs] at hA ⊢
  refine Calls.callWith_builtin (by show (false || (backTo cpos (starEach es X.env)).any (·.1)) = false; rw [hplain] <;> rfl) (Calls.evalArgs_plain ?_)
  exact thn hA fun us s2 ⟨vs, H2, I2, r2, q2⟩ => hm pins s2 σ H2 x vs v us Q I2 r1 r2 q2
/- xs.append(e), list.index on a module's tuple .. are MtR facts of 06m -/
end
end L2

namespace L2
open PySem PySem.Spec PyProof.Rows

def MtM (X : Cx) (id : String) (r : V → List V → Hp → VK → Prop) : Prop :=
  ∀ (pins : List (Addr × Obj)) (s : Shared) (σ : St) (H : Hp) (x : V) (xs : List V) (v : Value) (us : List Value) (Q : VK), Inv X pins σ H s → RelV x v → Vals xs us → r x xs H Q →
    wpAny (model X.prog X.w) X.A (call (.builtin id) (v :: us)) (EP X pins σ Q) X.xe s

/-! ### lists of values -/
theorem Vals.one : ∀ {x : V} {us : List Value}, Vals [x] us → ∃ u, us = [u] ∧ RelV x u
  | _, _, .cons r .nil => ⟨_, rfl, r⟩
theorem Vals.zero : ∀ {us : List Value}, Vals [] us → us = []
  | _, .nil => rfl
theorem Vals.dropLast {xs : List V} {us : List Value} (h : Vals xs us) : Vals xs.dropLast us.dropLast := by
  induction h with
  | nil => exact .nil
  | cons r t ih =>
    cases t with
    | nil => exact .nil
    | cons q t' => exact .cons r ih
theorem Vals.reverse {xs : List V} {us : List Value} (h : Vals xs us) : Vals xs.reverse us.reverse := by
  induction h with
  | nil => exact .nil
  | cons r t ih => rw [List.reverse_cons, List.reverse_cons]; exact Vals.append ih (.cons r .nil)
section
variable {X : Cx} {pins : List (Addr × Obj)} {σ : St} {H : Hp} {s : Shared} {l b : Addr} {xs ys zs : List V}

/-! ### the two steps: a tracked list is rewritten, a new list is laid -/
theorem Inv.lset {its its' : List Value} {n : Nat} {f : Array Value → Array Value} {t' : Nat} (I : Inv X pins σ H s) (hH : H l = some (.lst xs))
    (e : s.heap.get? l = some { cls := .type "list", data := .seq its.toArray n }) (hf : f its.toArray = its'.toArray) (hv : Vals ys its') (hz : ys.length ≤ sizeLine) :
    Inv X pins σ (upd H l (.lst ys)) { s with heap := s.heap.update l (Obj.mapSeq f), toks := t' } := by
  have q := PySem.IsL.update e f
  rw [hf] at q
  refine I.write (x := l) (e := l) (by rw [hH]; exact trivial) (.inl rfl) (fun b' u hb hu => (Heap.get?_update_other s.heap (Obj.mapSeq f) (Ne.symm hb)).trans hu) ⟨_, q⟩ ?_
  exact ⟨hz, its', _, hv, q⟩
theorem Inv.lnew {its : List Value} {t' : Nat} (I : Inv X pins σ H s) (hv : Vals ys its) (hz : ys.length ≤ sizeLine) :
    Inv X pins σ (upd H s.heap.objs.size (.lst ys)) { s with heap := s.heap.push { cls := .type "list", data := .seq its.toArray }, toks := t' } :=
  I.laid (fun _ _ q => Heap.get?_push_of_some _ q) (Nat.le_refl _) ⟨hz, its, 0, hv, Heap.get?_push_size _ rfl⟩
theorem Inv.fresh (I : Inv X pins σ H s) : H s.heap.objs.size = none := I.hok.fresh (Nat.le_refl _)
theorem Inv.lstM (I : Inv X pins σ H s) (hH : H l = some (.lst xs)) : xs.length ≤ sizeLine ∧ ∃ (its : List Value) (n : Nat), Vals xs its ∧ xs.length = its.length ∧ s.heap.get? l = some { cls := .type "list", data := .seq its.toArray n } := by
  obtain ⟨z, its, n, r, e⟩ := I.hok l _ hH
  exact ⟨z, its, n, r, r.length, e⟩

end

section
variable {X : Cx}

/-! ### methods -/
def rAppend : V → List V → Hp → VK → Prop := fun x vs H Q => ∃ l xs y, x = .ref l ∧ vs = [y] ∧ H l = some (.lst xs) ∧ xs.length < sizeLine ∧ Q .non (upd H l (.lst (xs ++ [y])))
theorem mt_append : MtM X "list.append" rAppend := by
  intro pins s σ H x vs v us Q I rx rv h
  obtain ⟨l, xs, y, rfl, rfl, hH, hz, q⟩ := h
  cases rx
  obtain ⟨u, rfl, ru⟩ := rv.one
  obtain ⟨z, its, n, r, hl, e⟩ := I.lstM hH
  refine call_meets F.slot_list_append ⟨_, e, rfl⟩ F.entry_list_append (F.args_list_append_2 _ _) (PySem.list_append l its.toArray n u (by rw [List.size_toArray]; omega)) ⟨e, ?_⟩
  refine ⟨.non, _, I.lset (its' := its ++ [u]) hH e (by simp) (r.append (.cons ru .nil)) ?_, rfl, q⟩
  rw [List.length_append, List.length_singleton]
  omega

/-! ### list + list, list += list, list * int -/
def rCat : R2 := fun x y H Q => ∃ l b xs zs, x = .ref l ∧ y = .ref b ∧ H l = some (.lst xs) ∧ H b = some (.lst zs) ∧ xs.length + zs.length ≤ sizeLine ∧ ∀ p, H p = none → Q (.ref p) (upd H p (.lst (xs ++ zs)))
theorem op_cat : OpR X (binaryOp .Add) rCat := by
  intro pins s σ H x y v u Q I rx ry h
  obtain ⟨l, b, xs, zs, rfl, rfl, hH, hB, hz, q⟩ := h
  cases rx
  cases ry
  obtain ⟨z, its, n, r, hl, e⟩ := I.lstM hH
  obtain ⟨z2, its2, n2, r2, hl2, e2⟩ := I.lstM hB
  refine PySem.P.add_list e e2 ?_ (by rw [List.size_toArray, List.size_toArray]; omega)
  have ea : its.toArray ++ its2.toArray = (its ++ its2).toArray := by simp
  rw [ea]
  exact ⟨.ref _, _, I.lnew (t' := s.toks) (r.append r2) (by rw [List.length_append]; omega), rfl, q _ I.fresh⟩
end

/-! ### xs[a:b] = ys -/
section
variable {prog : Program} {w : World} {A : Around} {E : Value → Shared → Prop} {s : Shared}
end

section
variable {X : Cx}
end
end L2

namespace L2
open PySem PySem.Spec PyProof.Rows

/-! ### lists of pairs as tables -/
section
variable {κ : Type} [DecidableEq κ]
def valV (kvs : List (κ × V)) (k : κ) : Option V := (kvs.find? fun kv => decide (kv.1 = k)).map (·.2)
/-- in its place, or at the end -/
def putK (kvs : List (κ × V)) (k : κ) (v : V) : List (κ × V) :=
  if (kvs.any fun kv => decide (kv.1 = k)) = true then kvs.map (fun kv => if kv.1 = k then (kv.1, v) else kv) else kvs ++ [(k, v)]
def dropK (kvs : List (κ × V)) (k : κ) : List (κ × V) := kvs.filter fun kv => decide (kv.1 ≠ k)

theorem RelO.getD {o : Option V} {u : Option Value} {d : V} {d' : Value} (r : RelO o u) (rd : RelV d d') : RelV (o.getD d) (u.getD d') := by
  cases o with
  | none => cases u with
    | none => exact rd
    | some _ => exact (show False from r).elim
  | some _ => cases u with
    | none => exact (show False from r).elim
    | some _ => exact r

theorem KV.any {kvs : List (κ × V)} {vs : List (κ × Value)} (r : KV kvs vs) (k : κ) : (kvs.any fun kv => decide (kv.1 = k)) = vs.any fun kv => decide (kv.1 = k) := by
  unfold KV at r
  induction r with
  | nil => rfl
  | cons h t ih => rw [List.any_cons, List.any_cons, ih, h.1]
theorem KV.drop {kvs : List (κ × V)} {vs : List (κ × Value)} (r : KV kvs vs) (k : κ) : KV (dropK kvs k) (without vs k) := by
  unfold KV at r ⊢
  unfold dropK without
  induction r with
  | nil => exact .nil
  | @cons p q ps qs h t ih =>
    obtain ⟨h1, h2⟩ := h
    rw [List.filter_cons, List.filter_cons]
    by_cases e : p.1 = k
    · have a : ¬ decide (p.1 ≠ k) = true := by simp [e]
      have b : ¬ decide (q.1 ≠ k) = true := by simp [h1.symm.trans e]
      rw [if_neg a, if_neg b]; exact ih
    · have e' : ¬ q.1 = k := fun z => e (h1.trans z)
      have a : decide (p.1 ≠ k) = true := by simp [e]
      have b : decide (q.1 ≠ k) = true := by simp [e']
      rw [if_pos a, if_pos b]; exact .cons ⟨h1, h2⟩ ih
theorem KV.length {kvs : List (κ × V)} {vs : List (κ × Value)} (r : KV kvs vs) : kvs.length = vs.length := Paired.length r
end


/-- raw entries of a dict with tuple keys -/
abbrev KT (H : Hp) : List (List Key × V) → List (List Key × Addr × Value) → Prop := Paired fun p q => p.1 = q.1 ∧ H q.2.1 = some (.tup (p.1.map kV)) ∧ RelV p.2 q.2.2
theorem KT.keeps {H H' : Hp} {kvs : List (List Key × V)} {xs : List (List Key × Addr × Value)} (r : KT H kvs xs) (ht : ∀ b ys, H b = some (.tup ys) → H' b = some (.tup ys)) : KT H' kvs xs :=
  Paired.mapP r fun _ _ z => ⟨z.1, ht _ _ z.2.1, z.2.2⟩

section
variable {P : Program} {w : World} {H : Hp} {h : Heap} {a : Addr}
end

/-- what the dict at a holds at the key y -/
def DGet (H : Hp) (a : Addr) (y : V) (r : Option V) : Prop :=
  (∃ kvs k, Rd H a (.dK kvs) ∧ y = kV k ∧ r = valV kvs k) ∨ ∃ kvs k b, Rd H a (.dT kvs) ∧ y = .ref b ∧ H b = some (.tup (k.map kV)) ∧ r = valV kvs k
/-- the heap behind a[y] = v -/
def DPut (H : Hp) (a : Addr) (y v : V) (H' : Hp) : Prop :=
  (∃ kvs k, H a = some (.dK kvs) ∧ y = kV k ∧ kvs.length < sizeLine ∧ H' = upd H a (.dK (putK kvs k v))) ∨
  ∃ kvs k b, H a = some (.dT kvs) ∧ y = .ref b ∧ H b = some (.tup (k.map kV)) ∧ kvs.length < sizeLine ∧ H' = upd H a (.dT (putK kvs k v))
theorem DGet.k {H : Hp} {a : Addr} {kvs : List (Key × V)} {k : Key} (e : H a = some (.dK kvs)) : DGet H a (kV k) (valV kvs k) := .inl ⟨kvs, k, .inl e, rfl, rfl⟩
theorem DGet.t {H : Hp} {a b : Addr} {kvs : List (List Key × V)} {k : List Key} (e : H a = some (.dT kvs)) (eb : H b = some (.tup (k.map kV))) : DGet H a (.ref b) (valV kvs k) := .inr ⟨kvs, k, b, .inl e, rfl, eb, rfl⟩
theorem DPut.k {H : Hp} {a : Addr} {kvs : List (Key × V)} {k : Key} {v : V} (e : H a = some (.dK kvs)) (hl : kvs.length < sizeLine) : DPut H a (kV k) v (upd H a (.dK (putK kvs k v))) := .inl ⟨kvs, k, e, rfl, hl, rfl⟩
theorem DPut.t {H : Hp} {a b : Addr} {kvs : List (List Key × V)} {k : List Key} {v : V} (e : H a = some (.dT kvs)) (eb : H b = some (.tup (k.map kV))) (hl : kvs.length < sizeLine) :
    DPut H a (.ref b) v (upd H a (.dT (putK kvs k v))) := .inr ⟨kvs, k, b, e, rfl, eb, hl, rfl⟩


section
variable {X : Cx} {pins : List (Addr × Obj)} {σ : St} {H : Hp} {s : Shared} {a : Addr} {y v : V} {u r : Value} {o : Option V} {A : Around} {E : Value → Shared → Prop}

end

section
variable {X : Cx} {pins : List (Addr × Obj)} {σ : St} {H : Hp} {s : Shared} {a : Addr} {kvs : List (Key × V)} {k : Key} {u : Value} {A : Around} {E : Value → Shared → Prop}
end


/-- d[y] -/
def tDGet (td ty : TE) : TE := fun σ H Q => td σ H fun x H1 => ty σ H1 fun y H2 => ∃ a v, x = .ref a ∧ DGet H2 a y (some v) ∧ Q v H2
/-- y in d, y not in d -/
def tDIn (ty td : TE) : TE := fun σ H Q => ty σ H fun y H1 => td σ H1 fun x H2 => ∃ a o, x = .ref a ∧ DGet H2 a y o ∧ Q (.bl o.isSome) H2
/-- d[y] = v -/
def sDPut (td ty tv : TE) : TS := fun D σ H => tv σ H fun v H1 => td σ H1 fun x H2 => ty σ H2 fun y H3 => ∃ a H4, x = .ref a ∧ DPut H3 a y v H4 ∧ D.nx σ H4
section
variable {X : Cx} {o i e value : Expr} {pos pos' tpos : Pos} {td ty tv : TE}
end


/-- {}, to be a dict of the kind that is wanted -/
def tDNewK : TE := fun _ H Q => ∀ p, H p = none → Q (.ref p) (upd H p (.dK []))
section
variable {X : Cx} {pos : Pos}
end

/-! ### methods -/
/-- a method call o.m(e) of a built-in, with one argument: what must be seen of the text -/
structure M1 (X : Cx) (o : Expr) (m : Str) (apos : Pos) (e : Expr) (cpos : Pos) : Prop where
  base : attributeBase o m X.env (eval o X.env) = eval o X.env
  few : ((backTo cpos (starEach [e] X.env)).all (fun x => !x.1) && (backToKw cpos (keywordEach [] X.env)).all (fun x => x.1.isSome)
    && decide (([e] : List Expr).length + ([] : List Keyword).length + (if ([] : List Keyword).isEmpty then 0 else 1) < 30)) = true
  line : (apos.endLine == cpos.line) = true
  trees : backTo cpos (starEach [e] X.env) = [(false, eval e X.env)]
structure M2 (X : Cx) (o : Expr) (m : Str) (apos : Pos) (e f : Expr) (cpos : Pos) : Prop where
  base : attributeBase o m X.env (eval o X.env) = eval o X.env
  few : ((backTo cpos (starEach [e, f] X.env)).all (fun x => !x.1) && (backToKw cpos (keywordEach [] X.env)).all (fun x => x.1.isSome)
    && decide (([e, f] : List Expr).length + ([] : List Keyword).length + (if ([] : List Keyword).isEmpty then 0 else 1) < 30)) = true
  line : (apos.endLine == cpos.line) = true
  trees : backTo cpos (starEach [e, f] X.env) = [(false, eval e X.env), (false, eval f X.env)]

/-- a is a dict, whatever its keys -/
def IsD (H : Hp) (a : Addr) : Prop := (∃ kvs, Rd H a (.dK kvs)) ∨ ∃ kvs, Rd H a (.dT kvs)
section
variable {X : Cx} {pins : List (Addr × Obj)} {σ : St} {H : Hp} {s : Shared} {a : Addr} {y d : V} {u r : Value} {o : Option V} {A : Around} {E : Value → Shared → Prop}
end

def tDGet2 (td ty tx : TE) : TE := fun σ H Q => td σ H fun x H1 => ∃ a, x = .ref a ∧ IsD H1 a ∧ ty σ H1 fun y H2 => tx σ H2 fun z H3 => ∃ o, DGet H3 a y o ∧ Q (o.getD z) H3
section
variable {X : Cx} {o e f : Expr} {apos cpos : Pos} {td ty tx : TE}
end

/-! ### dict(d): a copy -/
section
variable {X : Cx} {pins : List (Addr × Obj)} {σ : St} {H : Hp} {s : Shared} {a : Addr} {kvs : List (Key × V)} {A : Around} {E : Value → Shared → Prop}
end


section
variable {X : Cx} {pins : List (Addr × Obj)} {σ : St} {H : Hp} {s : Shared} {a : Addr} {y : V} {u : Value} {A : Around} {E : Value → Shared → Prop}
end
end L2

namespace Att
open PySem PySem.W PySem.Calls PyProof.Rows

/-! ### the script -/
theorem ints_of_wellAll {P : Params} {h : Heap} : ∀ (ns : List Int) (vs : List Value), WellAll P h vs (ns.map WData.int) → IntsAre vs ns := by
  intro ns
  induction ns with
  | nil =>
    intro vs w
    rw [List.map_nil] at w
    cases w
    exact .nil
  | cons n ns ih =>
    intro vs w
    rw [List.map_cons] at w
    cases w with
    | cons a b =>
      cases a
      exact .cons _ _ (ih _ b)

theorem script_of {l : OpenLaw} {n : Nat} (hn : l.most = some n) {P : Params} {h : Heap} {args : List WData} {vals : List Value}
    (hpre : l.row.toRowW.claim.pre args = true) (hwl : WellAll P h vals args) :
    ∃ a vs ns, vals = [Value.ref a] ∧ args = [WData.list (ns.map WData.int)] ∧ h.get? a = some { cls := .type "list", data := .seq vs.toArray } ∧ IntsAre vs ns ∧ ns.length ≤ n := by
  have hsh : WShape.hasAll [] args [.list .int] = true := (pre_splitW hpre).1
  have hc : l.pre.holds [] { args := args } = true := (pre_splitW hpre).2
  obtain ⟨d, r, rfl, h1, h2⟩ := hasAllW_cons hsh
  obtain rfl := hasAllW_nil h2
  obtain ⟨xs, rfl, h3⟩ := hasW_list h1
  obtain ⟨ns, rfl⟩ := items_int h3
  have hlen : ns.length ≤ n := by
    unfold OpenLaw.pre at hc
    have h4 : (WTm.not (.lt (.lit (.int (n : Int))) (.len (.arg 0)))).holds [] { args := [.list (ns.map .int)] } = true := by
      have h4 := (holds_andW hc).1
      rw [hn] at h4
      exact h4
    have h5 := condW_of h4 (w_not (w_lt w_lit (w_len_list (w_arg rfl))))
    rw [List.length_map] at h5
    refine Nat.le_of_not_lt fun q => ?_
    have q' : (n : Int) < ((ns.length : Nat) : Int) := by omega
    first
      | (rw [decide_eq_true q'] at h5; exact absurd h5 (by decide))
      | (simp at h5; omega)
  cases hwl with
  | cons w1 w2 =>
    cases w2
    cases w1 with
    | list ho hall => exact ⟨_, _, ns, rfl, rfl, ho, ints_of_wellAll ns _ hall, hlen⟩

theorem post_true (l : OpenLaw) (args : List WData) : l.row.toRowW.claim.post args (.bool true) args = true :=
  postW_of (r := l.row.toRowW) (X := (true == true))
    (show WShape.has [] (.bool true) .bool = true by first | rfl | decide | simp [WShape.has, WShape.arms, WShape.armsAll])
    (show (WTm.eq .res (.lit (.bool true))).value [] { args := args, res := some (.bool true), after := args } = some (.bool (true == true)) from w_eq_bool (w_res rfl) w_lit) rfl

/-- the same from a codeAny of the CALL (for a layer whose function contracts speak of calls) -/
theorem attach_call {l : OpenLaw} {n : Nat} {q : Program} {loose : List Str} {XP : (Str → Option Value) → Heap → Prop} {YP : World → Heap → Prop} {d : DefRec}
    (hn : l.most = some n) (hdf : d.params.defaults = [])
    (call : ∀ (w : World) (s₀ s₁ : Shared) (mg mb : Str → Option Value) (fa : Addr) (o : Obj) (pm cd doc : Value) (a : Addr) (vs : List Value) (ns : List Int),
      Ground q loose [] XP w s₀ mg mb s₁.heap → YP w s₁.heap →
      s₁.heap.get? fa = some o → o.data = .func (docDef d.name d.params d.body d.scope pm cd doc) → s₁.heap.CodeRec cd d.name → mg d.name = some (.ref fa) →
      s₁.heap.get? a = some { cls := .type "list", data := .seq vs.toArray } → IntsAre vs ns → ns.length ≤ n → s₁.gens = #[] →
      codeAny (model l.prog w) callerA (.call (.ref fa) ⟨[.ref a], []⟩) (fun r s' => r = .ok (.ret (.bool true)) ∧ OldK s₁.heap s'.heap ∧ s'.os = s₁.os ∧ AllBare s'.gens) s₁) :
    WalkO q loose XP YP l.row.toRowW d [] (fun f vs => PySem.call f vs) := by
  intro w s₀ s₁ mg mb G Y fa o pm cd doc dV kV ho hd hcd hD hmg hg args vals as hpre hlay hrd hwl hlo
  obtain rfl : dV = .none := Dflts.none hD hdf
  obtain rfl : kV = .none := Dflts.noKw hD
  obtain ⟨a, vs, ns, rfl, rfl, hobj, hints, hlen⟩ := script_of hn hpre hwl
  refine enter_call (codeAny_mono (call w s₀ s₁ mg mb fa o pm cd doc a vs ns G Y ho (fd_plain hd) hcd hmg hobj hints hlen hg) fun r s' hq => ?_)
  obtain ⟨rfl, h2, h3, h4⟩ := hq
  exact ⟨.inl ⟨.bool true, .bool true, [], rfl, fun _ => rfl, .bool true, post_true l _, fun _ => ⟨List.Pairwise.nil, fun _ hm => (nomatch hm)⟩⟩, h2, h3, h4⟩

/-! ### rules over ANY heap (no ledger) from facts about the written part K: the library's own take a ledger (News) for what they write -/
section
variable {prog : Program} {w : World} {A : Around} {E : Value → Shared → Prop} {s : Shared} {K : Frag}

end
end Att

namespace L2
open PySem PySem.Spec PyProof.Rows

theorem vals_ints : ∀ {vs : List Value} {ns : List Int}, IntsAre vs ns → Vals (ns.map V.int) vs
  | _, _, .nil => .nil
  | _, _, .cons n t h => .cons ⟨t, rfl⟩ (vals_ints h)

/-- nothing is tracked but the script, known to the object (or it is an object of the module) -/
def Only (H : Hp) : Prop := ∀ b, H b = none ∨ ∃ o xs, H b = some (.frz o (.lst xs))

/-- THE HEAD: the law's promise, at the heap behind the top. F, the promise of the law's def, may use that base is part of the heap (so K.In base, base.Ns mainGlobals mg stand in Mod) -/
theorem law_call {P : Program} {w : World} {K : PySem.W.Frag} {mg mb : Str → Option Value} {CX : CXT} {k : Nat} {fa a : Addr} {fd : FuncData} {x : Str} {sp : Sp} {s₁ : Shared} {vs : List Value} {ns : List Int}
    (KX : K.In s₁.heap) (hns : s₁.heap.Ns mainGlobals mg) (hb : s₁.heap.Ns builtinsNs mb) (hbb : ∀ x : Str, x ≠ "__name__" → mb x = bootBuiltins x) (hlim : s₁.heap.NoLimit) (hg : s₁.gens = #[])
    (ha : s₁.heap.get? a = some { cls := .type "list", data := .seq vs.toArray }) (hi : IntsAre vs ns) (hl : ns.length ≤ sizeLine) (hr : Room k callerA)
    (F : ∀ base : Heap, K.In base → base.Ns mainGlobals mg → FnOk P w K mg base CX k fa fd [x] sp) (hbind : ∀ (s : Shared) (u : Value), BindsTo s fd ⟨[u], []⟩ [(x, u)])
    (hsp : ∀ H : Hp, Only H → SqL K H a (ns.map V.int) → sp [.ref a] H (fun v _ => v = .bl true) fun _ _ _ => False)
    (hCX : ∀ H e s', CX [] H s₁ (fun _ _ _ => False) e s' → False) :
    codeAny (model P w) callerA (.call (.ref fa) ⟨[.ref a], []⟩) (fun r s' => r = .ok (.ret (.bool true)) ∧ OldK s₁.heap s'.heap ∧ s'.os = s₁.os ∧ AllBare s'.gens) s₁ := by
  have rv := vals_ints hi
  have lenV := hi.length
  -- from an abstract heap in which nothing but the script may be tracked
  have core : ∀ H : Hp, Only H → SqL K H a (ns.map V.int) → HOk P w H s₁.heap → (∀ b, H b ≠ none → b = a) → (H a ≠ none → K.lookup a = none) →
      codeAny (model P w) callerA (.call (.ref fa) ⟨[.ref a], []⟩) (fun r s' => r = .ok (.ret (.bool true)) ∧ OldK s₁.heap s'.heap ∧ s'.os = s₁.os ∧ AllBare s'.gens) s₁ := by
    intro H hO hS hok hA hK
    have base_of : ∀ {b : Addr} {o : Obj}, s₁.heap.get? b = some o → H b = none → (hidT s₁.heap H).get? b = some o := fun e n => hidT_get e n
    have noA : ∀ {b : Addr} {o : Obj} {es : Array DictEntry} {ep : Nat}, s₁.heap.get? b = some o → o.data = .dict es ep → H b = none := fun {b o es ep} e d => by
      cases q : H b with
      | none => rfl
      | some u =>
        have e' : b = a := hA b (by rw [q]; simp)
        subst e'
        rw [ha] at e; cases e
        have d' : Data.seq vs.toArray _ = Data.dict es ep := d
        cases d'
    have nsK : ∀ {b : Addr} {m : Str → Option Value}, s₁.heap.Ns b m → (hidT s₁.heap H).Ns b m := fun {b m} ⟨o, es, ep, e, d, r⟩ => ⟨o, es, ep, base_of e (noA e d), d, r⟩
    have hKb : K.In (hidT s₁.heap H) := fun b o e => base_of (KX b o e) (by
      cases q : H b with
      | none => rfl
      | some u =>
        have e' : b = a := hA b (by rw [q]; simp)
        subst e'
        rw [hK (by rw [q]; simp)] at e; cases e)
    have hM : Mod K mg (hidT s₁.heap H) := ⟨hKb, nsK hns, ⟨mb, nsK hb, hbb⟩, let ⟨mc, h1, h2⟩ := hlim; ⟨mc, nsK h1, h2⟩⟩
    have e0 : Env0 P w K mg (hidT s₁.heap H) callerA [] s₁ H := ⟨rfl, hM, fun b o e => of_hidT e, Nat.le_of_eq (hidT_size _ _), trivial, fun b hb => absurd (show b ∈ ([] : List Addr) from hb) (by simp), hok, .of_eq hg⟩
    refine codeAny_mono ((F _ hKb (nsK hns)).run callerA [] s₁ H ⟨[.ref a], []⟩ [.ref a] [.ref a] _ _ hr e0 (hbind s₁ (.ref a)) (.cons rfl .nil) (hsp H hO hS)) fun r s' h => ?_
    cases r with
    | error e => exact (hCX H e s' h).elim
    | ok fl =>
      cases fl with
      | next => exact False.elim h
      | brk => exact False.elim h
      | cont => exact False.elim h
      | ret u =>
        obtain ⟨v, H', os, bare, un, hok', r', q⟩ := h
        have q' : v = .bl true := q
        subst q'
        obtain rfl : u = Value.bool true := r'
        refine ⟨rfl, OldK.of_keep fun b o e => ?_, os, bare⟩
        cases q : H b with
        | none => exact un.keep b o e q (by intro z; exact absurd (show b ∈ ([] : List Addr) from z) (by simp)) (by simp)
        | some u =>
          rcases hO b with z | ⟨ob, xs, z⟩
          · rw [q] at z; cases z
          · have z2 := un.frzs b ob _ z
            obtain ⟨e1, _⟩ := hok b _ z
            obtain ⟨e2, _⟩ := hok' b _ z2
            rw [e] at e1; cases e1
            exact e2
  cases hk : K.lookup a with
  | some o =>
    -- the script is one of the module's own objects
    have e := KX a o hk
    rw [ha] at e
    cases e
    refine core (fun _ => none) (fun _ => .inl rfl) (.inr ⟨_, vs.toArray, _, hk, rfl, rfl, rfl, by rw [List.size_toArray, lenV]; exact hl, by simpa using rv⟩) (fun b u z => by have z' : (none : Option HO) = some u := z; cases z') (fun b z => absurd rfl z) fun z => absurd rfl z
  | none =>
    refine core (fun b => if b = a then some (.frz { cls := .type "list", data := .seq vs.toArray } (.lst (ns.map V.int))) else none) (fun b => ?_) (.inl (.inr ⟨{ cls := .type "list", data := .seq vs.toArray }, if_pos rfl⟩)) (fun b u z => ?_) (fun b z => ?_) fun _ => hk
    · by_cases hb : b = a
      · exact .inr ⟨_, _, if_pos hb⟩
      · exact .inl (if_neg hb)
    · by_cases hb : b = a
      · have z' := (if_pos hb).symm.trans z
        cases z'
        subst hb
        exact ⟨ha, by rw [List.length_map]; exact hl, vs, _, rv, ha⟩
      · have z' := (if_neg hb).symm.trans z
        cases z'
    · by_cases hb : b = a
      · exact hb
      · exact absurd (if_neg hb) z
end L2

namespace L2
open PySem PySem.Spec PyProof.Rows

abbrev KOf {K : PySem.W.Frag} {h : Heap} (_ : K.In h) : PySem.W.Frag := K

/-- the goal that k_head leaves (case hc), from the law's promise. F gives the function object fd (K's own) once, then the promise over every base -/
theorem walk_of {l : PySem.W.OpenLaw} {n k : Nat} {q : Program} {loose : List Str} {XP : (Str → Option Value) → Heap → Prop} {YP : World → Heap → Prop} {d : DefRec} {K : Params → PySem.W.Frag} {CX : World → CXT} {sp : World → Sp} {x : Str}
    (hn : l.most = some n) (hn2 : n ≤ sizeLine) (hdf : d.params.defaults = []) (hr : Room k callerA)
    (hY : ∀ (w : World) (h : Heap), YP w h → (K w.params).In h)
    (F : ∀ (w : World) (mg : Str → Option Value) (fa : Addr) (h : Heap), (K w.params).In h → h.Ns mainGlobals mg → mg d.name = some (.ref fa) →
      ∃ fd : FuncData, (∀ (s : Shared) (u : Value), BindsTo s fd ⟨[u], []⟩ [(x, u)]) ∧
        ∀ base : Heap, (K w.params).In base → base.Ns mainGlobals mg → FnOk l.prog w (K w.params) mg base (CX w) k fa fd [x] (sp w))
    (hsp : ∀ (w : World) (H : Hp) (a : Addr) (ns : List Int), ns.length ≤ n → Only H → SqL (K w.params) H a (ns.map V.int) → sp w [.ref a] H (fun v _ => v = .bl true) fun _ _ _ => False)
    (hCX : ∀ (w : World) (H : Hp) (s : Shared) (e : Value) (s' : Shared), CX w [] H s (fun _ _ _ => False) e s' → False) :
    PySem.W.WalkO q loose XP YP l.row.toRowW d [] (fun f vs => PySem.call f vs) := by
  refine Att.attach_call hn hdf fun w s₀ s₁ mg mb fa o pm cd doc a vs ns G Y ho hd hcd hmg hobj hints hlen hg => ?_
  have KX := hY w _ Y
  obtain ⟨fd, hb, hF⟩ := F w mg fa _ KX G.T.g hmg
  exact law_call KX G.T.g G.T.b G.T.builtins G.T.nolimit hg hobj hints (Nat.le_trans hlen hn2) hr hF hb (fun H hO hS => hsp w H a ns hlen hO hS) fun H e s' => hCX w H s₁ e s'
end L2


/-! SHORT WORDS over the layer: a def of the text, its body, what a loop and a test want. -/
namespace L2
open PySem PySem.Spec PyProof.Rows

def defArgs (s : Stmt) : Arguments := match s with
  | .FunctionDef _ a _ _ _ _ _ _ _ _ => a
  | _ => { posonlyargs := [], args := [], vararg := none, kwonlyargs := [], kw_defaults := [], kwarg := none, defaults := [] }
def defBody (s : Stmt) : List Stmt := match s with
  | .FunctionDef _ _ b _ _ _ _ _ _ _ => b
  | _ => []
def defScope (s : Stmt) : Scope := match s with
  | .FunctionDef _ _ _ _ _ _ sc _ _ _ => sc
  | _ => { kind := .function, names := [], isGenerator := false, isCoroutine := false }

/-! ### no exception leaves a def -/
abbrev CX0 : CXT := fun _ _ _ _ _ _ => False
abbrev E0 : XK := fun _ _ _ => False
theorem pass0 {X : Cx} : Passes CX0 X E0 := fun _ _ _ _ _ _ _ h => h.elim

/-! ### a def (or method) of the text as it stands behind the top -/
structure Fun (K : PySem.W.Frag) (x qual : Str) (st : Stmt) (f : Addr) (fd : FuncData) : Prop where
  ex : ∃ (oc : Value) (od : Option Addr) (kV doc pm : Value) (an : Option Addr) (cdv ct : Value) (osl : Array (Option Value)),
    fd = PySem.W.fnOf x qual (defArgs st) (defBody st) (defScope st) .none kV doc pm an cdv ct ∧ K.lookup f = some ⟨oc, od, .func fd, osl⟩ ∧ PySem.W.codeIn K cdv qual = true
  kp : PySem.W.keepIn K (.ref f) = true
section
variable {P : Program} {w : World} {K : PySem.W.Frag} {mg : Str → Option Value} {base : Heap}
/-- THE RULE for a def: its body as a term of rules, and the reading of that term -/
theorem Fun.ok {x qual : Str} {st : Stmt} {f : Addr} {fd : FuncData} {N ps : List Str} {k : Nat} {sp : Sp} (F : Fun K x qual st f fd) (S : FnScope N ps (defScope st)) (len : ∀ vs H Q E, sp vs H Q E → vs.length = ps.length)
    (hbody : ∀ (cdv : Value) (A : Around) (outer : List Env) (s : Shared) (H : Hp) (vs : List V) (Q : VK) (E : XK), Room k (A.deeper (envOfC qual (defScope st) s.heap.objs.size f cdv)) → sp vs H Q E →
      ∃ t, PSs (cxOf CX0 P w K mg base N qual (defScope st) f cdv A outer s H E).nox (defBody st) t ∧ t { nx := fun _ H' => Q .non H', rt := Q } (start N vs) H) : FnOk P w K mg base CX0 (k + 1) f fd ps sp := by
  obtain ⟨oc, od, kV, doc, pm, an, cdv, ct, osl, rfl, lk, hcd⟩ := F.ex
  refine fn_of lk hcd S len fun A outer s H vs Q E hr hsp => ?_
  obtain ⟨t, h, q⟩ := hbody cdv A outer s H vs Q E hr hsp
  exact ⟨t, h.nox, q⟩
/-- how its arguments bind (no defaults): h is «fun _ _ _ _ _ _ us hl => match us, hl with | [_, _], _ => rfl», one _ a parameter -/
theorem Fun.binds {x qual : Str} {st : Stmt} {f : Addr} {fd : FuncData} {ps : List Str} (F : Fun K x qual st f fd)
    (h : ∀ (kV doc pm : Value) (an : Option Addr) (cdv ct : Value) (us : List Value), us.length = ps.length → bindArgs (PySem.W.fnOf x qual (defArgs st) (defBody st) (defScope st) .none kV doc pm an cdv ct) ⟨us, []⟩ = pure (ps.zip us)) : Binds K fd ps [] := by
  obtain ⟨oc, od, kV, doc, pm, an, cdv, ct, osl, rfl, lk, hcd⟩ := F.ex
  exact .all (h kV doc pm an cdv ct)
theorem fun_mk {x qual : Str} {st : Stmt} {f : Addr} {oc : Value} {od an : Option Addr} {osl : Array (Option Value)} {kV doc pm cdv ct : Value} (l : K.lookup f = some ⟨oc, od, .func (PySem.W.fnOf x qual (defArgs st) (defBody st) (defScope st) .none kV doc pm an cdv ct), osl⟩)
    (c : PySem.W.codeIn K cdv qual = true) (k : PySem.W.keepIn K (.ref f) = true) : Fun K x qual st f (PySem.W.fnOf x qual (defArgs st) (defBody st) (defScope st) .none kV doc pm an cdv ct) := ⟨⟨oc, od, kV, doc, pm, an, cdv, ct, osl, rfl, l, c⟩, k⟩
end
theorem small1000 {n : Nat} (h : n ≤ 1000) : n < sizeLine := Nat.lt_of_le_of_lt h (by decide)

/-! ### expressions in short: the name that stands in the i-th slot -/
section
variable {X : Cx}
theorem pv (i : Nat) {x : Str} {pos : Pos} (hN : X.N[i]? = some x := by rfl) (hv : Vis X.env.scope x := by first | exact Or.inl rfl | exact Or.inr (Or.inl rfl) | exact Or.inr (Or.inr rfl)) (hd : (x == ("__debug__" : Str)) = false := by decide)
    (hcd : (x == ("__classdict__" : Str)) = false := by decide) : PE X (.Name x pos) (tVar i) := pe_var hN hv hd hcd
end

theorem iteT {A B : Prop} (h : A) : if true = true then A else B := by
  rw [if_pos rfl]
  exact h
/-! ### heaps -/
/-- all that was tracked is as it was -/
def Same (H H' : Hp) : Prop := ∀ b o, H b = some o → H' b = some o
theorem Same.refl (H : Hp) : Same H H := fun _ _ h => h
theorem Same.trans {H H1 H2 : Hp} (a : Same H H1) (b : Same H1 H2) : Same H H2 := fun c o h => b c o (a c o h)
theorem Same.free {H H' : Hp} (e : Same H H') {l : Addr} (h : H' l = Option.none) : H l = Option.none := by
  cases q : H l with
  | none => rfl
  | some o =>
    rw [e l o q] at h
    cases h
theorem Same.seq {K : PySem.W.Frag} {H H' : Hp} {a : Addr} {xs : List V} (e : Same H H') (h : SqL K H a xs) : SqL K H' a xs := by
  rcases h with (h | ⟨o, h⟩) | h
  · exact .inl (.inl (e _ _ h))
  · exact .inl (.inr ⟨o, e _ _ h⟩)
  · exact .inr h

end L2

namespace L2
open PySem PySem.Spec PyProof.Rows
section
variable {X : Cx}
end
/-! ### a dict's pairs: keys that differ -/
section
variable {κ : Type} [DecidableEq κ]
end
end L2

/-! Own rules over the hand layer, 1: a list comprehension of one clause, none or one test -/
namespace L2
open PySem PySem.Spec PyProof.Rows

/-- an object that stands untracked is taken up -/
theorem HOk.adopt {P : Program} {w : World} {H : Hp} {h : Heap} {a : Addr} {o : HO} (x : HOk P w H h) (hn : H a = none)
    (new : ObjOk P w (upd H a o) h a o) : HOk P w (upd H a o) h := by
  intro b u e
  by_cases hb : b = a
  · subst hb
    rw [upd_same] at e
    cases e
    exact new
  · rw [upd_ne hb] at e
    refine (x b u e).stay (fun c v _ q => q) (fun c q => ?_) (fun c xs q => ?_)
    · rw [upd_ne (ne_of_none q hn)]
      exact q
    · rw [upd_ne (ne_of_none q hn)]
      exact q

/-- what a comprehension's scope catches of the cells -/
def closL (cells : List (Str × Addr)) : List (Str × NameKind) → List (Str × Addr) → List (Str × Addr)
  | [], acc => acc
  | (n, k) :: r, acc => if k = .free then (match cells.lookup n with
    | some c => closL cells r ((n, c) :: acc)
    | none => closL cells r acc) else closL cells r acc
theorem closL_sub (cells : List (Str × Addr)) : ∀ (names : List (Str × NameKind)) (acc : List (Str × Addr)), (∀ x c, acc.lookup x = some c → cells.lookup x = some c) →
    ∀ x c, (closL cells names acc).lookup x = some c → cells.lookup x = some c
  | [], acc, h => h
  | (n, k) :: r, acc, h => by
    intro x c e
    unfold closL at e
    split at e
    · split at e
      · rename_i c' hc'
        refine closL_sub cells r ((n, c') :: acc) (fun y d q => ?_) x c e
        rw [List.lookup_cons] at q
        split at q
        · rename_i hy
          have hy' : y = n := by simpa using hy
          subst hy'
          cases q
          exact hc'
        · exact h y d q
      · exact closL_sub cells r acc h x c e
    · exact closL_sub cells r acc h x c e
theorem closL_has (cells : List (Str × Addr)) : ∀ (names : List (Str × NameKind)) (acc : List (Str × Addr)) (x : Str),
    ((acc.lookup x).isSome = true ∨ ((x, NameKind.free) ∈ names ∧ (cells.lookup x).isSome = true)) → ((closL cells names acc).lookup x).isSome = true
  | [], acc, x, h => by
    rcases h with h | h
    · exact h
    · exact absurd h.1 (by simp)
  | (n, k) :: r, acc, x, h => by
    have kept : ∀ c, (acc.lookup x).isSome = true → ((((n, c) :: acc : List (Str × Addr))).lookup x).isSome = true := fun c q => by
      rw [List.lookup_cons]
      split
      · rfl
      · exact q
    unfold closL
    split
    · split
      · rename_i c' hc'
        refine closL_has cells r _ x ?_
        rcases h with h | ⟨h1, h2⟩
        · exact .inl (kept _ h)
        · rcases List.mem_cons.mp h1 with z | z
          · cases z
            refine .inl ?_
            rw [List.lookup_cons]
            simp
          · exact .inr ⟨z, h2⟩
      · rename_i hc'
        refine closL_has cells r _ x ?_
        rcases h with h | ⟨h1, h2⟩
        · exact .inl h
        · rcases List.mem_cons.mp h1 with z | z
          · cases z
            rw [hc'] at h2
            cases h2
          · exact .inr ⟨z, h2⟩
    · rename_i hk
      refine closL_has cells r _ x ?_
      rcases h with h | ⟨h1, h2⟩
      · exact .inl h
      · rcases List.mem_cons.mp h1 with z | z
        · cases z
          exact absurd rfl hk
        · exact .inr ⟨z, h2⟩
theorem closure_run (env : Env) : ∀ (names : List (Str × NameKind)) (acc : List (Str × Addr)), (∀ y ∈ names, y.2 = .free → ∃ c, env.cells.lookup y.1 = some c) →
    (forIn names acc fun (x : Str × NameKind) cs => (match x with
      | (name, kind) => if (kind == .free) = true then (do let y ← cellOf env name; pure (ForInStep.yield ((name, y) :: cs))) else pure (ForInStep.yield cs) : Sem (ForInStep (List (Str × Addr))))) = (pure (closL env.cells names acc) : Sem _)
  | [], acc, _ => rfl
  | (n, k) :: r, acc, h => by
    have hr : ∀ y ∈ r, y.2 = .free → ∃ c, env.cells.lookup y.1 = some c := fun y hy => h y (List.mem_cons_of_mem _ hy)
    rw [List.forIn_cons]
    unfold closL
    by_cases hk : k = .free
    · subst hk
      obtain ⟨c, hc⟩ := h (n, .free) List.mem_cons_self rfl
      have hc' : env.cells.lookup n = some c := hc
      rw [if_pos rfl, hc']
      have e1 : cellOf env n = pure c := by
        unfold cellOf
        rw [hc']
      simp only [beq_self_eq_true, if_true]
      rw [e1, pure_bind, pure_bind]
      exact closure_run env r _ hr
    · have hk' : (k == NameKind.free) = false := by simpa using hk
      rw [if_neg hk]
      simp only [hk', Bool.false_eq_true, if_false]
      rw [pure_bind]
      exact closure_run env r _ hr
theorem closureFor_run {scope : Scope} {env : Env} (h : ∀ y ∈ scope.names, y.2 = .free → ∃ c, env.cells.lookup y.1 = some c) :
    closureFor scope env = pure (closL env.cells scope.names []) := by
  have e := closure_run env scope.names [] h
  unfold closureFor
  first
    | exact e
    | (simp only [bind_pure]; exact e)
    | (rw [e]; rfl)

/-- names and kinds of a comprehension's block, held against the def around it -/
def capsOk (N N' : List Str) (cap : List (Option Nat)) (names : List (Str × NameKind)) : Bool :=
  decide (cap.length = N'.length) && (N'.zip cap).all fun p => match p.2 with
    | none => true
    | some j => decide (N[j]? = some p.1) && decide (names.lookup p.1 = some .free)
def scopeOk (sc sc' : Scope) : Bool :=
  decide (sc.kind = .function) && sc.names.all fun p => match p.2 with
    | .local => decide (sc.names.lookup p.1 = some .local)
    | .free => decide (sc'.names.lookup p.1 = some .cell)
    | .cell => false
    | _ => true
def capV (cap : List (Option Nat)) (σ : St) : St := cap.map fun o => o.bind fun j => (σ[j]?).join
def compCx (X : Cx) (N' : List Str) (scope : Scope) (cl : List (Str × Addr)) (C : Addr) (ex : List Addr) (s : Shared) (H : Hp) : Cx where
  prog := X.prog
  w := X.w
  K := X.K
  mg := X.mg
  base := X.base
  A := X.A
  N := N'
  s₀ := s
  H₀ := H
  env := compEnvC scope cl C X.env
  outer := X.stack
  stack := X.stack
  ex := ex
  fn := fun _ => false
  calm := X.calm
  pn := []
  xe := fun _ _ => False
/-- the tests of the clause -/
def PF (X : Cx) (ifs : List Expr) (t : TT) : Prop :=
  ∀ (pins : List (Addr × Obj)) (s : Shared) (σ : St) (H : Hp) (Q : Bool → Hp → Prop), Inv X pins σ H s → t σ H Q →
    wpAny (model X.prog X.w) X.A (forIn ifs true fun c r => if r = true then do let ok ← isTrue c X.env (eval c X.env); pure (ForInStep.yield ok) else pure (ForInStep.yield r)) (TP X pins σ Q) X.xe s
def tAll : TT := fun _ H Q => Q true H
theorem pf_nil {X : Cx} : PF X [] tAll := fun _ _ _ H _ I h => wpAny_tests_nil ⟨H, I, h⟩
/-- W: by the turn, a measure, what has been put together so far -/
def CompW (J : It) (g : TG) (tt : TT) (te : TE) (Q : VK) (W : Nat → Nat → List V → St → Hp → Prop) : Prop := ∀ i m acc σ H, W i m acc σ H →
  (J.stop i H ∧ ∀ D, H D = none → Q (.ref D) (upd H D (.lst acc))) ∨
  (J.go i H ∧ acc.length < sizeLine ∧ ∀ x H', J.yld i H x H' → g x σ H' fun σ2 H2 => tt σ2 H2 fun b H3 =>
    if b = true then te σ2 H3 fun y H4 => ∃ m', m' < m ∧ W (i + 1) m' (acc ++ [y]) σ2 H4 else ∃ m', m' < m ∧ W (i + 1) m' acc σ2 H3)
def tComp (wi : TI) (cap : List (Option Nat)) (g : TG) (tt : TT) (te : TE) : TE := fun σ H Q => wi σ H fun J H1 =>
  ∃ W : Nat → Nat → List V → St → Hp → Prop, (∃ m, W 0 m [] (capV cap σ) H1) ∧ CompW J g tt te Q W

theorem relabel_mem {scope : Scope} {env : Env} {x : Str} {k : NameKind} (h : (relabel scope env).names.lookup x = some k) :
    ∃ k', (x, k') ∈ scope.names ∧ (k = k' ∨ (k' = .free ∧ k = .cell)) := by
  have m := PySem.mem_of_lookup h
  obtain ⟨⟨n, k'⟩, hm, e⟩ := List.mem_map.mp m
  dsimp only at e
  split at e
  · rename_i hc
    have e1 : n = x := (Prod.mk.inj e).1
    have e2 : NameKind.cell = k := (Prod.mk.inj e).2
    subst e1
    subst e2
    refine ⟨k', hm, .inr ⟨?_, rfl⟩⟩
    simp only [Bool.and_eq_true, beq_iff_eq] at hc
    exact hc.1.1
  · have e1 : n = x := (Prod.mk.inj e).1
    have e2 : k' = k := (Prod.mk.inj e).2
    subst e1
    subst e2
    exact ⟨k', hm, .inl rfl⟩

section
variable {prog : Program} {w : World} {A : Around} {R : Result → Shared → Prop} {s : Shared}
/-- the loop of the block, any target -/
theorem comp_loop {elt target iter : Expr} {ifs : List Expr} {scope : Scope} {pos : Pos} {it acc : Value} {env : Env} (I : Nat → Shared → Prop)
    (turn : ∀ n s, I n s → wpAny (model prog w) A (pyNext it) (fun r s1 => match r with
      | none => R (.ok .next) s1
      | some v => wpAny (model prog w) A (letOwnedTupleGo target it v) (fun _ s2 => wpAny (model prog w) A (assign target env v) (fun _ s3 =>
          wpAny (model prog w) A (forIn ifs true fun c r => if r = true then do let ok ← isTrue c env (eval c env); pure (ForInStep.yield ok) else pure (ForInStep.yield r)) (fun ok s4 =>
            if ok = true then wpAny (model prog w) A (eval elt env) (fun x s5 =>
              wpAny (model prog w) A (call (.builtin "list.append") [acc, x]) (fun _ s6 => ∃ m, m < n ∧ I m s6) (fun _ _ => False) s5) (fun _ _ => False) s4
            else ∃ m, m < n ∧ I m s4) (fun _ _ => False) s3) (fun _ _ => False) s2) (fun _ _ => False) s1) (fun _ _ => False) s)
    (n : Nat) (h : I n s) :
    codeAny (model prog w) A (.compLoop (.ListComp elt [⟨target, iter, ifs, 0⟩] scope pos) 0 it acc env) R s := by
  have no : ∀ {E : Value → Shared → Prop} (a : Value) (b : Shared), (fun _ _ => False : Value → Shared → Prop) a b → E a b := fun _ _ f => False.elim f
  refine codeAny_loop rfl I (fun n s hI => ?_) n h
  show wpAny _ A ((compTurn (.ListComp elt [⟨target, iter, ifs, 0⟩] scope pos) 0 it acc env).onRaise _) _ _ s
  refine wpAny_noted ?_
  rw [compTurn_list]
  refine wpAny_bind (wpAny_standAt (wpAny_bind (wpAny_mono (turn n s hI) (fun r s1 h1 => ?_) no)))
  cases r with
  | none => exact wpAny_pure h1
  | some v =>
    refine wpAny_bind (wpAny_mono h1 (fun _ s2 h2 => ?_) no)
    refine wpAny_bind (wpAny_mono h2 (fun _ s3 h3 => ?_) no)
    refine wpAny_bind (wpAny_mono h3 (fun ok s4 h4 => ?_) no)
    cases ok with
    | false => exact wpAny_pure ⟨rfl, h4⟩
    | true =>
      refine wpAny_bind (wpAny_bind (wpAny_mono h4 (fun x s5 h5 => ?_) no))
      exact wpAny_bind (wpAny_mono h5 (fun _ s6 h6 => wpAny_pure (wpAny_pure ⟨rfl, h6⟩)) no)
end

section
variable {X : Cx} {target iter elt : Expr} {ifs : List Expr} {scope : Scope} {pos : Pos} {N' : List Str} {cap : List (Option Nat)} {wi : TI} {g : TG} {tt : TT} {te : TE}

theorem capsOk_at {N : List Str} {names : List (Str × NameKind)} (h : capsOk N N' cap names = true) : cap.length = N'.length ∧
    ∀ (i j : Nat) (x : Str), cap[i]? = some (some j) → N'[i]? = some x → N[j]? = some x ∧ names.lookup x = some .free := by
  unfold capsOk at h
  rw [Bool.and_eq_true] at h
  refine ⟨of_decide_eq_true h.1, fun i j x h1 h2 => ?_⟩
  have hm : (x, some j) ∈ N'.zip cap := by
    have : (N'.zip cap)[i]? = some (x, some j) := by rw [List.getElem?_zip_eq_some]; exact ⟨h2, h1⟩
    exact List.mem_of_getElem? this
  have q := List.all_eq_true.mp h.2 _ hm
  dsimp only at q
  rw [Bool.and_eq_true] at q
  exact ⟨of_decide_eq_true q.1, of_decide_eq_true q.2⟩

/-- what is true of the block's context at its start -/
theorem comp_start {pins : List (Addr × Obj)} {σ : St} {H : Hp} {s : Shared} {fp : List Addr} {h4 : Heap} {m4 : Str → Option Value} {D C : Addr} {s3 : Shared} {t4 : Nat}
    (hs : scopeOk scope X.env.scope = true) (hcap : capsOk X.N N' cap scope.names = true)
    (I : Inv X pins σ H s) (hD : @Eq Nat D s.heap.objs.size) (I3 : Inv X pins σ H s3) (hC : @Eq Nat C s3.heap.objs.size) (hDC : @LT.lt Nat _ D C) (hfp : ∀ b ∈ fp, FpOk X pins H b) (hin : ∀ b ∈ fp, @LT.lt Nat _ b D)
    (hns : h4.Ns C m4) (kp : ∀ b o, s3.heap.get? b = some o → h4.get? b = some o) :
    Inv (compCx X N' scope (closL X.env.cells scope.names []) C (D :: fp) s3 H) [] (capV cap σ) H { s3 with heap := h4, toks := t4 } := by
  unfold scopeOk at hs
  rw [Bool.and_eq_true] at hs
  obtain ⟨hk0, hn0⟩ := hs
  have hkind : scope.kind = .function := of_decide_eq_true hk0
  have hn1 := List.all_eq_true.mp hn0
  have nocell : ∀ y ∈ scope.names, y.2 ≠ .cell := fun y hy e => by
    have q := hn1 y hy
    rw [e] at q
    cases q
  have locs : ∀ y ∈ scope.names, y.2 = .local → scope.names.lookup y.1 = some .local := fun y hy e => by
    have q := hn1 y hy
    rw [e] at q
    exact of_decide_eq_true q
  have frees : ∀ y ∈ scope.names, y.2 = .free → X.env.scope.names.lookup y.1 = some .cell := fun y hy e => by
    have q := hn1 y hy
    rw [e] at q
    exact of_decide_eq_true q
  have sub : ∀ x c, (closL X.env.cells scope.names []).lookup x = some c → X.env.cells.lookup x = some c :=
    closL_sub X.env.cells scope.names [] (fun x c e => by simp at e)
  obtain ⟨hlen, hcaps⟩ := capsOk_at hcap
  have freeHas : ∀ x, (x, NameKind.free) ∈ scope.names → ∃ c, (closL X.env.cells scope.names []).lookup x = some c := fun x hx => by
    obtain ⟨c, hc⟩ := I.ok.has x (.inl (frees _ hx rfl))
    exact Option.isSome_iff_exists.mp (closL_has X.env.cells scope.names [] x (.inr ⟨hx, by rw [hc]; rfl⟩))
  have cne : ∀ x c, X.env.cells.lookup x = some c → c ≠ D := fun x c e z => by
    obtain ⟨v, q⟩ := I.cell x c e
    have h1 : @LT.lt Nat _ c s.heap.objs.size := q.lt
    have h2 : @Eq Nat c D := z
    omega
  refine ⟨⟨I3.ok.mod, hkind, I3.ok.glob, I3.ok.blt, ?_, fun x y c h1 h2 => I3.ok.inj x y c (sub x c h1) (sub y c h2), ?_, ?_, I3.ok.hd, I3.ok.frames, .inl rfl, ?_, I3.bs, Nat.le_trans I3.ok.bsz I3.sz, ?_, ?_, I3.stack, I3.stkFree⟩,
    rfl, I3.bare, Un.kept kp, ⟨m4, hns, ?_⟩, ?_, ?_, ?_, ?_, I3.hok.kept kp, ?_⟩
  · show @LE.le Nat _ s3.heap.objs.size C
    omega
  · intro x hx
    have hx' : (relabel scope X.env).names.lookup x = some .cell ∨ (relabel scope X.env).names.lookup x = some .free := hx
    have : ∃ k, (relabel scope X.env).names.lookup x = some k ∧ (k = .cell ∨ k = .free) := by
      rcases hx' with z | z
      · exact ⟨_, z, .inl rfl⟩
      · exact ⟨_, z, .inr rfl⟩
    obtain ⟨k, e, hk⟩ := this
    obtain ⟨k', hm, hkk⟩ := relabel_mem e
    have hf : k' = .free := by
      rcases hkk with z | z
      · subst z
        rcases hk with z | z
        · exact absurd z (nocell _ hm)
        · exact z
      · exact z.1
    subst hf
    exact freeHas x hm
  · intro x c hf
    exact absurd hf (by show ¬ (false = true); decide)
  · intro b hb
    rcases List.mem_cons.mp hb with z | z
    · subst z
      exact ⟨Nat.ne_of_lt hDC, fun x c e => cne x c (sub x c e)⟩
    · have hbD := hin b z
      exact ⟨fun y => by have y' : @Eq Nat b C := y; omega, fun x c e => (hfp b z).2.2.2.2.1 x c (sub x c e)⟩
  · intro b o e hb
    rcases List.mem_cons.mp hb with z | z
    · subst z
      have h1 : @LT.lt Nat _ b s.heap.objs.size := Heap.lt_size (I.bk _ _ e)
      omega
    · rcases (hfp b z).2.2.2.1 with q | q
      · exact I.ok.noex b o e q
      · have h1 : @LT.lt Nat _ b X.s₀.heap.objs.size := Heap.lt_size (I.ok.bs b o e).1
        have h2 : @LE.le Nat _ X.s₀.heap.objs.size b := q
        omega
  · intro b hb hf
    have hf' : b ∈ frs X.stack := hf
    rcases List.mem_cons.mp hb with z | z
    · subst z
      rcases List.mem_cons.mp (I.stkSub _ hf') with q | q
      · have h1 : @LT.lt Nat _ X.env.locals s.heap.objs.size := I.lt
        have h2 : @Eq Nat b X.env.locals := q
        omega
      · exact I.nofs (Nat.le_of_eq hD.symm) q
    · rcases List.mem_cons.mp (I.stkSub _ hf') with q | q
      · exact (hfp b z).2.1 q
      · exact (hfp b z).2.2.1 q
  · intro i x v h1 h2 h3
    have h2' : (cap.map fun o => o.bind fun j => (σ[j]?).join)[i]? = some (some v) := h2
    rw [List.getElem?_map] at h2'
    cases hc : cap[i]? with
    | none => rw [hc] at h2'; cases h2'
    | some o =>
      rw [hc] at h2'
      have h2'' : (o.bind fun j => (σ[j]?).join) = some v := Option.some.inj h2'
      cases o with
      | none => cases h2''
      | some j =>
        have hj : (σ[j]?).join = some v := h2''
        have hσ : σ[j]? = some (some v) := by
          cases hq : σ[j]? with
          | none => rw [hq] at hj; cases hj
          | some o => rw [hq] at hj; cases o with
            | none => cases hj
            | some v' => cases hj; rfl
        obtain ⟨hN, hfr⟩ := hcaps i j x hc h1
        have hm := PySem.mem_of_lookup hfr
        have hcell := frees _ hm rfl
        obtain ⟨m, hn, hl⟩ := I3.loc
        obtain ⟨u, ru, lk⟩ := hl j x v hN hσ (.inr (.inl hcell))
        refine ⟨u, ru, .inr ?_⟩
        rcases lk with ⟨z, _⟩ | ⟨_, c, e, q⟩
        · have z' : X.env.scope.names.lookup x = some .local := z
          rw [hcell] at z'
          cases z'
        · obtain ⟨c', hc'⟩ := freeHas x hm
          have e2 := sub x c' hc'
          rw [e] at e2
          cases e2
          refine ⟨?_, c, hc', ?_⟩
          · have h3' : (relabel scope X.env).names.lookup x = some .local ∨ (relabel scope X.env).names.lookup x = some .cell ∨ (relabel scope X.env).names.lookup x = some .free := h3
            rcases h3' with z | z | z
            · obtain ⟨k', hm', hk'⟩ := relabel_mem z
              rcases hk' with y | y
              · subst y
                have y' := locs _ hm' rfl
                rw [show scope.names.lookup (x, NameKind.local).1 = some NameKind.free from hfr] at y'
                cases y'
              · cases y.2
            · exact .inl z
            · exact .inr z
          · obtain ⟨o, ho, hd⟩ := q
            exact ⟨o, kp _ _ ho, hd⟩
  · intro x c e
    obtain ⟨v, o, ho, hd⟩ := I3.cell x c (sub x c e)
    exact ⟨v, o, kp _ _ ho, hd⟩
  · show H C = none
    exact I3.hok.fresh (Nat.le_of_eq hC.symm)
  · intro x c e
    exact I3.freeC x c (sub x c e)
  · intro p hp
    exact absurd hp (by show ¬ p ∈ ([] : List (Addr × Obj)) ++ []; simp)
  · show (cap.map _).length = N'.length
    rw [List.length_map]
    exact hlen
end
end L2

/-! Own rules over the hand layer, 2: the comprehension itself -/
namespace L2
open PySem PySem.Spec PyProof.Rows
section
variable {X : Cx} {target iter elt : Expr} {ifs : List Expr} {scope : Scope} {pos : Pos} {N' : List Str} {cap : List (Option Nat)} {wi : TI} {g : TG} {tt : TT} {te : TE}

/-- what the block leaves: the list that it made, taken up -/
def CompEnd (X : Cx) (pins : List (Addr × Obj)) (σ : St) (Q : VK) (D C : Addr) (s' : Shared) : Prop :=
  ∃ m H', s'.heap.Ns C m ∧ Inv X pins σ H' s' ∧ FpOk X pins H' C ∧ Q (.ref D) H'
/-- .. and the block's own names may go -/
theorem CompEnd.go {pins : List (Addr × Obj)} {σ : St} {H : Hp} {C : Addr} {s' : Shared} {h' : Heap} (I : Inv X pins σ H s') (f : FpOk X pins H C) (hb : Heap.SameBut C s'.heap h') : Inv X pins σ H { s' with heap := h' } :=
  I.turned (t' := s'.toks) (it := C) (fun b o hn e => (hb.2 b hn).trans e) f.1 f.2.1 f.2.2.2.1 f.2.2.2.2.1 f.2.2.2.2.2

/-- the block, from the iterator on -/
theorem comp_block {pins : List (Addr × Obj)} {σ : St} {s2 : Shared} {H2 : Hp} {Q : VK} {it : Addr} {fp : List Addr} {tn : Nat → Heap → Prop} {J : It} {W : Nat → Nat → List V → St → Hp → Prop} {m0 : Nat}
    {E : Value → Shared → Prop} {RR : Value → Addr → Result → Shared → Prop}
    (hc : X.calm = true) (hs : scopeOk scope X.env.scope = true) (hcap : capsOk X.N N' cap scope.names = true)
    (hB : ∀ (C : Addr) (ex : List Addr) (s : Shared) (H : Hp), PG (compCx X N' scope (closL X.env.cells scope.names []) C ex s H) target g ∧
      PF (compCx X N' scope (closL X.env.cells scope.names []) C ex s H) ifs tt ∧ PE (compCx X N' scope (closL X.env.cells scope.names []) C ex s H) elt te)
    (I2 : Inv X pins σ H2 s2) (T : Turn X.prog X.w X.K target J fp it tn) (st2 : tn 0 s2.heap) (f2 : ∀ b ∈ fp, FpOk X pins H2 b) (w0 : W 0 m0 [] (capV cap σ) H2) (turn : CompW J g tt te Q W)
    (hR : ∀ (D C : Addr) (s' : Shared), CompEnd X pins σ Q D C s' → RR (.ref D) C (.ok .next) s') :
    wpAny (model X.prog X.w) X.A (newList []) (fun acc s3 => wpAny (model X.prog X.w) X.A (newFunctionEnv scope X.env.globals (closL X.env.cells scope.names []) [] X.env.qual none .none (some X.env)) (fun cenv s4 =>
      codeAny (model X.prog X.w) X.A (.compStart (.ListComp elt [⟨target, iter, ifs, 0⟩] scope pos) 0 (.ref it) acc { cenv with scope := relabel scope X.env }) (RR acc cenv.locals) s4) E s3) E s2 := by
  have hs' := hs
  unfold scopeOk at hs'
  rw [Bool.and_eq_true] at hs'
  have hkind : scope.kind = .function := of_decide_eq_true hs'.1
  have nocell : ∀ y ∈ scope.names, y.2 ≠ .cell := fun y hy e => by
    have q := List.all_eq_true.mp hs'.2 y hy
    rw [e] at q
    cases q
  refine wpAny_newObj_type (wpAny_newFunctionEnv nocell (by intro y hy; simp at hy) (fun h4 hns hsb => ?_) hkind)
  dsimp only at hns hsb ⊢
  generalize hG : s2.heap.push { cls := .type "list", dict := none, data := .seq ([] : List Value).toArray } = G at hns hsb ⊢
  have hC : G.objs.size = s2.heap.objs.size + 1 := by rw [← hG, Heap.size_push]
  have up : ∀ b o, s2.heap.get? b = some o → G.get? b = some o := fun b o e => by rw [← hG]; exact Heap.get?_push_of_some _ e
  have I3 : Inv X pins σ H2 { s2 with heap := G } := I2.kept (t' := s2.toks) up
  have gD : G.get? s2.heap.objs.size = some { cls := .type "list", dict := none, data := .seq ([] : List Value).toArray } := by rw [← hG]; exact Heap.get?_push_size _ rfl
  generalize hDe : s2.heap.objs.size = D at *
  generalize hCe : G.objs.size = C at *
  have hDC : @LT.lt Nat _ D C := by
    have h1 : @Eq Nat C (D + 1) := hC
    omega
  have kp : ∀ b o, G.get? b = some o → h4.get? b = some o := fun b o e =>
    hsb.extBut b o (Nat.ne_of_lt (by have h1 : @LT.lt Nat _ b G.objs.size := Heap.lt_size e; rw [hCe] at h1; exact h1)) (Heap.get?_push_of_some _ e)
  have inn : ∀ b ∈ fp, @LT.lt Nat _ b D := fun b hb => by
    obtain ⟨o, ho, _⟩ := T.obj 0 _ st2 b hb
    have h1 : @LT.lt Nat _ b s2.heap.objs.size := Heap.lt_size ho
    rw [hDe] at h1
    exact h1
  have Y0 := comp_start (t4 := s2.toks + ([] : List (Str × Value)).length) (N' := N') (cap := cap) hs hcap I2 hDe.symm I3 hCe.symm hDC f2 inn hns kp
  obtain ⟨hg, hF, hE⟩ := hB C (D :: fp) { s2 with heap := G } H2
  have st4 : tn 0 h4 := T.keep 0 _ _ st2 fun b hb o e => kp b o (up b o e)
  have gD4 : h4.get? D = some { cls := .type "list", dict := none, data := .seq ([] : List Value).toArray } := kp _ _ gD
  -- the block's context, for short
  generalize hY : compCx X N' scope (closL X.env.cells scope.names []) C (D :: fp) { s2 with heap := G } H2 = Y at Y0 hg hF hE
  have yP : Y.prog = X.prog := by rw [← hY]; rfl
  have yW : Y.w = X.w := by rw [← hY]; rfl
  have yK : Y.K = X.K := by rw [← hY]; rfl
  have yc : Y.calm = true := by rw [← hY]; exact hc
  have yA : Y.A = X.A := by rw [← hY]; rfl
  have yL : Y.env.locals = C := by rw [← hY]; rfl
  have yE : Y.env = compEnvC scope (closL X.env.cells scope.names []) C X.env := by rw [← hY]; rfl
  have yx : Y.xe = fun _ _ => False := by rw [← hY]; rfl
  have yex : Y.ex = D :: fp := by rw [← hY]; rfl
  have ypn : Y.pn = [] := by rw [← hY]; rfl
  have yfs : Y.fs = frs X.stack := by rw [← hY]; rfl
  have ys0 : Y.s₀ = { s2 with heap := G } := by rw [← hY]; rfl
  have yH0 : Y.H₀ = H2 := by rw [← hY]; rfl
  have yok : Y.Ok := Y0.ok
  have exY : ∀ b ∈ D :: fp, b ≠ C ∧ b ∉ Y.fs ∧ ∀ x c, Y.env.cells.lookup x = some c → c ≠ b := fun b hb => by
    have q := yok.exf b (by rw [yex]; exact hb)
    rw [yL] at q
    exact ⟨q.1, yok.exfs b (by rw [yex]; exact hb), q.2⟩
  have noD : D ∉ fp := fun z => Nat.lt_irrefl _ (inn D z)
  have loop : ∀ s4 : Shared, s4 = { s2 with heap := h4, toks := s2.toks + ([] : List (Str × Value)).length } →
      codeAny (model X.prog X.w) X.A (.compLoop (.ListComp elt [⟨target, iter, ifs, 0⟩] scope pos) 0 (.ref it) (.ref D) (compEnvC scope (closL X.env.cells scope.names []) C X.env)) (RR (.ref D) C) s4 := by
    rintro s4 rfl
    refine comp_loop (fun n s => ∃ i acc σ' H' its k, Inv Y [] σ' H' s ∧ tn i s.heap ∧ (∀ b ∈ fp, H' b = none) ∧ H' D = none ∧ s.heap.get? D = some { cls := .type "list", data := .seq (List.toArray its) k } ∧
      Vals acc its ∧ acc.length ≤ sizeLine ∧ W i n acc σ' H') ?_ m0 ⟨0, [], capV cap σ, H2, [], 0, Y0, st4, fun b hb => (f2 b hb).1, ?_, gD4, .nil, Nat.zero_le _, w0⟩
    · rintro n s ⟨i, acc, σ', H', its, k, J1, st, fr, hD0, gDs, rv, hz, wi'⟩
      -- the list that grows, pinned
      have JD : Inv Y [(D, { cls := .type "list", data := .seq (List.toArray its) k })] σ' H' s := J1.pins_of fun p hp => by
        have e : p = (D, { cls := .type "list", data := .seq (List.toArray its) k }) := by simpa using hp
        subst e
        refine ⟨gDs, hD0, ?_, (exY D (by simp)).2.1, fun v => by simp⟩
        rw [yL]
        exact (exY D (by simp)).1
      have fpk : ∀ {H5 : Hp}, (∀ b ∈ fp, H5 b = none) → ∀ b ∈ fp, FpOk Y [(D, { cls := .type "list", data := .seq (List.toArray its) k })] H5 b := fun {H5} hn b hb => by
        have q := exY b (List.mem_cons_of_mem _ hb)
        refine ⟨hn b hb, by rw [yL]; exact q.1, q.2.1, .inl (by rw [yex]; exact List.mem_cons_of_mem _ hb), q.2.2, fun p hp => ?_⟩
        rw [ypn] at hp
        have e : p = (D, { cls := .type "list", data := .seq (List.toArray its) k }) := by simpa using hp
        subst e
        intro z
        exact noD (by rw [show D = b from z]; exact hb)
      rcases turn i n acc σ' H' wi' with ⟨stop, qn⟩ | ⟨go, hlt, step⟩
      · have z := T.done Y yP yW yK yc i _ s σ' H' (fun _ _ => False) JD (fpk fr) st stop
        rw [yA] at z
        refine thn z fun r s1 ⟨hr, J5⟩ => ?_
        subst hr
        refine hR D C s1 ?_
        obtain ⟨m, hn, _⟩ := J5.loc
        rw [yL] at hn
        have hDp := J5.pin (D, { cls := .type "list", data := .seq (List.toArray its) k }) (by rw [ypn]; simp)
        have hCn : H' C = none := by
          have q := J5.free
          rw [yL] at q
          exact q
        have hok' : HOk X.prog X.w H' s1.heap := by
          have q := J5.hok
          rw [yP, yW] at q
          exact q
        have hok2 : HOk X.prog X.w (upd H' D (.lst acc)) s1.heap := hok'.adopt hD0 ⟨hz, its, k, rv, hDp.1⟩
        have bs := J5.base
        rw [yfs, yex, yH0, ys0] at bs
        have old : ∀ b o, s2.heap.get? b = some o → b ≠ D := fun b o e => by
          have h1 : @LT.lt Nat _ b s2.heap.objs.size := Heap.lt_size e
          rw [hDe] at h1
          exact Nat.ne_of_lt h1
        have nin : ∀ b, b ∉ fp → b ≠ D → b ∉ D :: fp := fun b h1 h2 z => by
          rcases List.mem_cons.mp z with y | y
          · exact h2 y
          · exact h1 y
        have hD2 : H2 D = none := I2.hok.fresh (Nat.le_of_eq hDe)
        have un : Un (frs X.stack) fp H2 (upd H' D (.lst acc)) s2.heap s1.heap := by
          refine ⟨fun b o e n hb hx => ?_, fun b o e n hb hx => ?_, fun b o e n hx => ?_, fun b o e hx => ?_, fun b xs e => ?_, fun b o u e => ?_, fun b ps e => ?_⟩
          · exact bs.keep b o (up b o e) n hb (nin b hx (old b o e))
          · exact bs.slot b o (up b o e) n hb (nin b hx (old b o e))
          · rw [upd_ne (old b o e)]
            exact bs.free b o (up b o e) n (nin b hx (old b o e))
          · exact bs.there b o (up b o e) (nin b hx (old b o e))
          · rw [upd_ne (ne_of_none e hD2)]
            exact bs.tups b xs e
          · rw [upd_ne (ne_of_none e hD2)]
            exact bs.frzs b o u e
          · rw [upd_ne (ne_of_none e hD2)]
            exact bs.tbls b ps e
        have os5 : s1.os = s2.os := by
          have q := J5.os
          rw [ys0] at q
          exact q
        refine ⟨m, upd H' D (.lst acc), hn, ?_, I2.fpOk (by rw [hDe]; exact Nat.le_of_lt hDC) ?_, qn D hD0⟩
        · refine I2.call' (s' := s1) (ch := fp) os5 un hok2 J5.bare fun b hb => ?_
          obtain ⟨_, q1, _, q3, q4, q5⟩ := f2 b hb
          exact ⟨q3, q1, q4, q5⟩
        · rw [upd_ne (Nat.ne_of_gt hDC)]
          exact hCn
      · have z := T.item Y yP yW yK yc i _ s σ' H' (fun _ _ => False) JD (fpk fr) st go
        rw [yA] at z
        refine thn z fun r s4 ⟨u, hr, h5⟩ => ?_
        subst hr
        refine thn h5 fun _ s5 ⟨x, H5, J5, r5, y5, st5, fr5⟩ => ?_
        have J5' := J5.pinned (fpk fr5) (T.obj _ _ st5)
        have g1 := hg _ s5 σ' H5 x u _ J5' r5 (step x H5 y5)
        rw [yP, yW, yA, yE, yx] at g1
        refine thn g1 fun _ s6 ⟨σ6, H6, J6, q6⟩ => ?_
        have g2 := hF _ s6 σ6 H6 _ J6 q6
        rw [yP, yW, yA, yE, yx] at g2
        refine thn g2 fun ok s7 ⟨H7, J7, q7⟩ => ?_
        have back : ∀ {σ8 : St} {H8 : Hp} {s8 : Shared}, Inv Y ([(D, { cls := .type "list", data := .seq (List.toArray its) k })] ++ pinsAt fp s5.heap) σ8 H8 s8 →
            Inv Y [] σ8 H8 s8 ∧ tn (i + 1) s8.heap ∧ (∀ b ∈ fp, H8 b = none) ∧ H8 D = none ∧ s8.heap.get? D = some { cls := .type "list", data := .seq (List.toArray its) k } := fun {σ8 H8 s8} J8 => by
          have pin1 : ∀ b ∈ fp, ∀ o, s5.heap.get? b = some o → s8.heap.get? b = some o ∧ H8 b = none := fun b hb o e => by
            have q := J8.pin (b, o) (List.mem_append_right _ (List.mem_append_right _ (mem_pinsAt hb e)))
            exact ⟨q.1, q.2.1⟩
          have pinD := J8.pin (D, { cls := .type "list", data := .seq (List.toArray its) k }) (List.mem_append_right _ (List.mem_append_left _ (by simp)))
          refine ⟨J8.pins_of (fun p hp => nomatch hp), T.keep _ _ _ st5 fun b hb o e => (pin1 b hb o e).1, fun b hb => ?_, pinD.2.1, pinD.1⟩
          obtain ⟨o, e, _⟩ := T.obj _ _ st5 b hb
          exact (pin1 b hb o e).2
        cases ok with
        | false =>
          rw [if_neg (by decide)]
          rw [if_neg (by decide)] at q7
          obtain ⟨m', hm, w7⟩ := q7
          obtain ⟨b1, b2, b3, b4, b5⟩ := back J7
          exact ⟨m', hm, i + 1, acc, σ6, H7, its, k, b1, b2, b3, b4, b5, rv, hz, w7⟩
        | true =>
          rw [if_pos rfl]
          rw [if_pos rfl] at q7
          have g3 := hE _ s7 σ6 H7 _ J7 q7
          rw [yP, yW, yA, yE, yx] at g3
          refine thn g3 fun v s8 ⟨y, H8, J8, ry, m', hm, w8⟩ => ?_
          obtain ⟨b1, b2, b3, b4, b5⟩ := back J8
          have hlen : its.toArray.size ≤ sizeLine := by
            rw [List.size_toArray, ← rv.length]
            exact hz
          refine call_meets F.slot_list_append ⟨_, b5, rfl⟩ F.entry_list_append (F.args_list_append_2 _ _) (PySem.list_append D its.toArray k v hlen) ⟨b5, ?_⟩
          have q9 := PySem.IsL.update b5 (·.push v)
          have e9 : its.toArray.push v = (its ++ [v]).toArray := by simp
          refine ⟨m', hm, i + 1, acc ++ [y], σ6, H8, its ++ [v], (if (its.toArray.push v).size == its.toArray.size then k else k + 1), b1.turned (it := D) (fun b o hb e => ?_) b4 ?_ (.inl ?_) (exY D (by simp)).2.2 (fun p hp => ?_), T.keep _ _ _ b2 fun b hb o e => ?_, b3, b4, ?_, rv.append (.cons ry .nil), ?_, w8⟩
          · exact (Heap.get?_update_other _ _ (Ne.symm hb)).trans e
          · rw [yL]
            exact Nat.ne_of_lt hDC
          · rw [yex]
            simp
          · rw [ypn] at hp
            exact absurd hp (by simp)
          · exact (Heap.get?_update_other _ _ (fun z => noD (by rw [z]; exact hb))).trans e
          · rw [← e9]
            exact q9
          · rw [List.length_append, List.length_singleton]
            omega
    · exact I2.hok.fresh (Nat.le_of_eq hDe)
  exact codeAny_compStart_list (loop _ rfl) (T.self _ 0 _ _ _ st4 (loop _ rfl))

/-- [elt for target in iter if ..] -/
theorem pe_comp (hc : X.calm = true) (hi : PI X target iter wi) (hs : scopeOk scope X.env.scope = true) (hcap : capsOk X.N N' cap scope.names = true)
    (hB : ∀ (C : Addr) (ex : List Addr) (s : Shared) (H : Hp), PG (compCx X N' scope (closL X.env.cells scope.names []) C ex s H) target g ∧
      PF (compCx X N' scope (closL X.env.cells scope.names []) C ex s H) ifs tt ∧ PE (compCx X N' scope (closL X.env.cells scope.names []) C ex s H) elt te)
    (hf : ∀ x, foldedSetIterable iter X.env x = pure x := by intro _; rfl) : PE X (.ListComp elt [⟨target, iter, ifs, 0⟩] scope pos) (tComp wi cap g tt te) := by
  intro pins s σ H Q I h
  have hs' := hs
  unfold scopeOk at hs'
  rw [Bool.and_eq_true] at hs'
  have hn := List.all_eq_true.mp hs'.2
  rw [eval_ListComp]
  refine wpAny_comprehension_free (use := none) (cl := closL X.env.cells scope.names []) (g := ⟨target, iter, ifs, 0⟩) (gs := []) rfl hf (closureFor_run fun y hy e => ?_) (of_decide_eq_true hs'.1) (fun y hy e => ?_) ?_
  · have q := hn y hy
    rw [e] at q
    exact I.ok.has y.1 (.inl (of_decide_eq_true q))
  · have q := hn y hy
    rw [e] at q
    exact of_decide_eq_true q
  refine thn (hi pins s σ H _ I h) fun v s1 h1 => thn h1 fun itv s2 h2 => ?_
  obtain ⟨it, fp, tn, J, H2, e, I2, T, st2, f2, W, ⟨m0, w0⟩, turn⟩ := h2
  subst e
  refine comp_block (Q := Q) (RR := fun acc C => compPost (model X.prog X.w) X.A X.xe none (EP X pins σ Q) acc C) hc hs hcap hB I2 T st2 f2 w0 turn fun D C s' ⟨m, H', hn, I', f', q⟩ => ?_
  exact ⟨m, hn, fun h' hb => ⟨.ref D, H', CompEnd.go I' f' hb, rfl, q⟩⟩
/-- x = [elt for target in iter if ..] where x is a plain local -/
theorem ps_setComp {i : Nat} {x : Str} {pos' spos : Pos} (hN : X.N.Nodup) (hi : X.N[i]? = some x) (hx : X.env.scope.names.lookup x = some .local)
    (hc : X.calm = true) (hI : PI X target iter wi) (hs : scopeOk scope X.env.scope = true) (hcap : capsOk X.N N' cap scope.names = true)
    (hB : ∀ (C : Addr) (ex : List Addr) (s : Shared) (H : Hp), PG (compCx X N' scope (closL X.env.cells scope.names []) C ex s H) target g ∧
      PF (compCx X N' scope (closL X.env.cells scope.names []) C ex s H) ifs tt ∧ PE (compCx X N' scope (closL X.env.cells scope.names []) C ex s H) elt te)
    (hsw : swapsWith (.ListComp elt [⟨target, iter, ifs, 0⟩] scope pos) (some (.Name x pos')) spos.line X.env = pure true := by rfl)
    (hf : ∀ x, foldedSetIterable iter X.env x = pure x := by intro _; rfl) :
    PS X (.Assign [.Name x pos'] (.ListComp elt [⟨target, iter, ifs, 0⟩] scope pos) spos) (fun D σ H => tComp wi cap g tt te σ H fun v H' => D.nx (σ.set i (some v)) H') := by
  intro pins s σ H De I h
  have hs' := hs
  unfold scopeOk at hs'
  rw [Bool.and_eq_true] at hs'
  have hn := List.all_eq_true.mp hs'.2
  rw [exec_Assign_Name_used _ _ _ _ hsw]
  refine wpAny_bind (wpAny_standAt (wpAny_bind ?_))
  show wpAny _ X.A (do let _ ← comprehension (.ListComp elt [⟨target, iter, ifs, 0⟩] scope pos) scope X.env _ (newList []) false (eval iter X.env) (some (assign (.Name x pos') X.env))) _ _ s
  refine wpAny_bind (wpAny_mono (wpAny_comprehension_free (use := some (assign (.Name x pos') X.env)) (Q := fun _ s' => SP X pins De .next s') (cl := closL X.env.cells scope.names [])
    (g := ⟨target, iter, ifs, 0⟩) (gs := []) rfl hf (closureFor_run fun y hy e => ?_) (of_decide_eq_true hs'.1) (fun y hy e => ?_) ?_) (fun _ s' hq => wpAny_pure (wpAny_pure hq)) fun _ _ e => e)
  · have q := hn y hy
    rw [e] at q
    exact I.ok.has y.1 (.inl (of_decide_eq_true q))
  · have q := hn y hy
    rw [e] at q
    exact of_decide_eq_true q
  refine thn (hI pins s σ H _ I h) fun v s1 h1 => thn h1 fun itv s2 h2 => ?_
  obtain ⟨it, fp, tn, J, H2, e, I2, T, st2, f2, W, ⟨m0, w0⟩, turn⟩ := h2
  subst e
  refine comp_block (Q := fun v H' => De.nx (σ.set i (some v)) H') (RR := fun acc C => compPost (model X.prog X.w) X.A X.xe (some (assign (.Name x pos') X.env)) (fun _ s' => SP X pins De .next s') acc C) hc hs hcap hB I2 T st2 f2 w0 turn fun D C s' ⟨m, H', hn, I', f', q⟩ => ?_
  show wpAny _ X.A (assign (.Name x pos') X.env (.ref D)) _ _ s'
  refine wpAny_assign_Name (store_ok2 (v := .ref D) I' hN hi (.inl hx) rfl (fun s'' I'' ch => ?_) (.inr hx))
  obtain ⟨a, hsb, ha⟩ := ch
  have hCa : C ≠ a := by
    rcases ha with z | z
    · rw [z]
      exact f'.2.1
    · exact fun y => f'.2.2.2.2.1 x a z y.symm
  exact ⟨m, hn.sameBut hsb hCa, fun h' hb => ⟨σ.set i (some (.ref D)), H', CompEnd.go I'' f' hb, q⟩⟩
end
end L2

/-! Own rules over the hand layer, 3: built-in calls, isinstance, == of data, is True -/
namespace L2
open PySem PySem.Spec PyProof.Rows

theorem Same.tup {K : PySem.W.Frag} {H H' : Hp} {a : Addr} {xs : List V} (e : Same H H') (h : SqT K H a xs) : SqT K H' a xs := by
  rcases h with (h | ⟨o, h⟩) | h
  · exact .inl (.inl (e _ _ h))
  · exact .inl (.inr ⟨o, e _ _ h⟩)
  · exact .inr h
theorem Same.upd {H : Hp} {p : Addr} (h : H p = none) (o : HO) : Same H (upd H p o) := fun b u q => by
  rw [upd_ne (ne_of_none q h)]
  exact q

/-! ### all, any, sum of a list -/
section
variable {X : Cx}
theorem vals_at {xs : List V} {us : List Value} {i : Nat} {u : Value} (r : Vals xs us) (e : us[i]? = some u) : ∃ x, xs[i]? = some x ∧ RelV x u := by
  have hl := r.length
  have hi : i < xs.length := by
    have := (List.getElem?_eq_some_iff.mp e).1
    omega
  obtain ⟨u', e', r'⟩ := r.get (List.getElem?_eq_getElem hi)
  rw [e] at e'
  cases e'
  exact ⟨_, List.getElem?_eq_getElem hi, r'⟩
theorem range_all (bs : List Bool) : (List.range bs.length).all (fun i => bs.getD i false) = bs.all id := by
  rw [Bool.eq_iff_iff, List.all_eq_true, List.all_eq_true]
  constructor
  · intro h b hb
    obtain ⟨i, hi, e⟩ := List.mem_iff_getElem.mp hb
    have q := h i (List.mem_range.mpr hi)
    rw [List.getD_eq_getElem?_getD, List.getElem?_eq_getElem hi] at q
    rw [← e]
    exact q
  · intro h i hi
    have hi' := List.mem_range.mp hi
    rw [List.getD_eq_getElem?_getD, List.getElem?_eq_getElem hi']
    exact h _ (List.getElem_mem hi')
theorem range_any (bs : List Bool) : (List.range bs.length).any (fun i => bs.getD i false) = bs.any id := by
  rw [Bool.eq_iff_iff, List.any_eq_true, List.any_eq_true]
  constructor
  · rintro ⟨i, hi, q⟩
    have hi' := List.mem_range.mp hi
    rw [List.getD_eq_getElem?_getD, List.getElem?_eq_getElem hi'] at q
    exact ⟨_, List.getElem_mem hi', q⟩
  · rintro ⟨b, hb, q⟩
    obtain ⟨i, hi, e⟩ := List.mem_iff_getElem.mp hb
    refine ⟨i, List.mem_range.mpr hi, ?_⟩
    rw [List.getD_eq_getElem?_getD, List.getElem?_eq_getElem hi, e]
    exact q
theorem truth_bools {bs : List Bool} {its : List Value} {A : Around} (r : Vals (bs.map V.bl) its) :
    TruthOf X.prog X.w A (fun i v => its.toArray[i]? = some v) (fun i => bs.getD i false) := by
  intro i v s Q E hP hQ
  have hP' : its[i]? = some v := by simpa using hP
  obtain ⟨x, hx, rx⟩ := vals_at r hP'
  rw [List.getElem?_map] at hx
  cases hb : bs[i]? with
  | none => rw [hb] at hx; cases hx
  | some b =>
    rw [hb] at hx
    have hx' : V.bl b = x := Option.some.inj hx
    subst hx'
    have rx' : v = Value.bool b := rx
    subst rx'
    refine wpAny_truthy_bool ?_
    have e : bs.getD i false = b := by rw [List.getD_eq_getElem?_getD, hb]; rfl
    have hQ' : Q (bs.getD i false) s := hQ
    rw [e] at hQ'
    exact hQ'
/-- what stood ahead of an iterator that was made and is done with -/
theorem old_iter {h h' : Heap} {o : Obj} (hk : ∀ b u, b ∉ [h.objs.size] → (h.push o).get? b = some u → h'.get? b = some u) (b : Addr) (u : Obj) (e : h.get? b = some u) : h'.get? b = some u := by
  refine hk b u (fun z => ?_) (Heap.get?_push_of_some _ e)
  have z' : @Eq Nat b h.objs.size := by simpa using z
  have h1 : @LT.lt Nat _ b h.objs.size := Heap.lt_size e
  omega
theorem call_all_list (hc : X.A.handled = none) : CallR X (.builtin "all") (fun xs H Q => ∃ (p : Addr) (bs : List Bool), xs = [.ref p] ∧ SqL X.K H p (bs.map V.bl) ∧ Q (.bl (bs.all id)) H) := by
  intro pins s σ H xs us Q I r h
  obtain ⟨p, bs, rfl, hq, q⟩ := h
  obtain ⟨u, rfl, rx⟩ := vals1 r
  cases rx
  obtain ⟨its, rv, pl, hz⟩ := I.list hq
  have hl : s.heap.IsList p its.toArray := pl.isList
  have hlt : p < s.heap.objs.size := by obtain ⟨_, e, _⟩ := hl; exact Heap.lt_size e
  refine call_all_walk (wpAny_pyIter_list hl ?_)
  refine ⟨_, _, _, _, _, _, fun i => bs.getD i false, rfl, Walks.list (A := X.A.in1) hc s.heap.objs.size p (Nat.ne_of_lt hlt) its.toArray, ⟨⟨_, Heap.get?_push_size _ rfl, rfl, rfl⟩, hl.push _⟩, truth_bools rv, fun h' tk hk => ?_⟩
  have e : (List.range its.toArray.size).all (fun i => bs.getD i false) = bs.all id := by
    have hl' := rv.length
    rw [List.length_map] at hl'
    rw [List.size_toArray, ← hl']
    exact range_all bs
  rw [e]
  exact ⟨.bl (bs.all id), H, I.kept (t' := tk) (old_iter hk), rfl, q⟩
theorem preSum_getD (ns : List Int) : ∀ j, preSum (fun i => ns.getD i 0) j = (ns.take j).sum
  | 0 => by simp [preSum]
  | j + 1 => by
    rw [preSum, preSum_getD ns j]
    by_cases hj : j < ns.length
    · rw [List.take_succ_eq_append_getElem hj, List.sum_append, List.getD_eq_getElem?_getD, List.getElem?_eq_getElem hj]
      simp
    · rw [List.take_of_length_le (by omega : ns.length ≤ j), List.take_of_length_le (by omega : ns.length ≤ j + 1), List.getD_eq_getElem?_getD, List.getElem?_eq_none_iff.mpr (by omega)]
      simp
theorem call_sum_list (hc : X.A.handled = none) : CallR X (.builtin "sum") (fun xs H Q => ∃ (p : Addr) (ns : List Int), xs = [.ref p] ∧ SqL X.K H p (ns.map V.int) ∧ Q (.int ns.sum) H) := by
  intro pins s σ H xs us Q I r h
  obtain ⟨p, ns, rfl, hq, q⟩ := h
  obtain ⟨u, rfl, rx⟩ := vals1 r
  cases rx
  obtain ⟨its, rv, pl, hz⟩ := I.list hq
  have hl : s.heap.IsList p its.toArray := pl.isList
  have hlt : p < s.heap.objs.size := by obtain ⟨_, e, _⟩ := hl; exact Heap.lt_size e
  have hlen : ns.length = its.length := by
    have := rv.length
    rw [List.length_map] at this
    exact this
  refine call_sum_walkG (wpAny_pyIter_list hl ?_)
  refine ⟨_, _, _, _, _, _, fun i => ns.getD i 0, rfl, Walks.list (A := X.A.in1) hc s.heap.objs.size p (Nat.ne_of_lt hlt) its.toArray, ⟨⟨_, Heap.get?_push_size _ rfl, rfl, rfl⟩, hl.push _⟩, fun b hb => ?_, fun i v hP => ?_, fun h' tk t' hk => ?_⟩
  · show @LT.lt Nat _ b _
    rw [Heap.size_push]
    have hlt' : @LT.lt Nat _ p s.heap.objs.size := hlt
    rcases List.mem_cons.mp hb with z | z
    · have z' : @Eq Nat b s.heap.objs.size := z
      omega
    · have z' : @Eq Nat b p := by simpa using z
      omega
  · have hP' : its[i]? = some v := by simpa using hP
    obtain ⟨x, hx, rx⟩ := vals_at rv hP'
    rw [List.getElem?_map] at hx
    cases hb : ns[i]? with
    | none => rw [hb] at hx; cases hx
    | some n =>
      rw [hb] at hx
      have hx' : V.int n = x := Option.some.inj hx
      subst hx'
      obtain ⟨t, ht⟩ := rx
      refine ⟨t, ?_⟩
      show v = Value.int (ns.getD i 0) t
      rw [ht, List.getD_eq_getElem?_getD, hb]
      rfl
  · have e : preSum (fun i => ns.getD i 0) its.toArray.size = ns.sum := by
      rw [preSum_getD, List.size_toArray, List.take_of_length_le (by omega)]
    rw [e]
    exact ⟨.int ns.sum, H, I.kept (t' := tk) (old_iter hk), ⟨_, rfl⟩, q⟩
/-- sorted of fewer than 64 ints -/
theorem call_sorted_ints : CallR X (.builtin "sorted") (fun xs H Q => ∃ (p : Addr) (ns : List Int), xs = [.ref p] ∧ SqL X.K H p (ns.map V.int) ∧ ns.length < 64 ∧
    ∀ (ns' : List Int) (l : Addr), ns'.Perm ns → ns'.Pairwise (· ≤ ·) → H l = none → Q (.ref l) (upd H l (.lst (ns'.map V.int)))) := by
  intro pins s σ H xs us Q I r h
  obtain ⟨p, ns, rfl, hq, h64, q⟩ := h
  obtain ⟨u, rfl, rx⟩ := vals1 r
  cases rx
  obtain ⟨its, rv, pl, hz⟩ := I.list hq
  have hlen : ns.length = its.length := by
    have := rv.length
    rw [List.length_map] at this
    exact this
  refine sorted_ints pl.isList (intsAre_of rv) (by omega) fun out ns' a1 a2 a3 => ?_
  obtain ⟨e, he⟩ := sortedAll_at s.heap its out
  have hfr : H (s.heap.objs.size + 1) = none := I.hok.fresh (Nat.le_succ _)
  have hlen2 : ns'.length = ns.length := a2.length_eq
  refine ⟨.ref (s.heap.objs.size + 1), upd H (s.heap.objs.size + 1) (.lst (ns'.map V.int)), I.laid (t' := s.toks) (fun b o e => sortedAll_old e) (Nat.le_succ _) ?_, rfl, q ns' _ a2 a3 hfr⟩
  refine ⟨by rw [List.length_map, hlen2]; exact Nat.le_of_lt (small1000 (by omega)), out.toList, e, vals_ints a1, ?_⟩
  simpa [seqObj] using he
end

/-! ### isinstance -/
def clsV : V → Value
  | .ty n => .type n
  | .ref a => .ref a
  | _ => .none
section
variable {X : Cx}
/-- isinstance(x, c) tells b -/
def Inst (K : PySem.W.Frag) (H : Hp) (x : V) (c : Value) (b : Bool) : Prop := ∃ t, TyOf K H x t ∧ PySem.W.kitOne K t c = some b
def okC : V → Prop
  | .ty _ => True
  | .ref _ => True
  | _ => False
theorem call_isinst : CallR X (.builtin "isinstance") (fun xs H Q => ∃ x c b, xs = [x, c] ∧ okC c ∧ Inst X.K H x (clsV c) b ∧ Q (.bl b) H) := by
  intro pins s σ H xs us Q I r h
  obtain ⟨x, c, b, rfl, hc, ⟨t, ty, e⟩, q⟩ := h
  obtain ⟨u, v, rfl, ru, rv⟩ := vals2 r
  have hv : v = clsV c := by
    cases c <;> first | exact hc.elim | exact rv
  subst hv
  exact isinst_ok I ru ty e fun tk => ⟨.bl b, H, I.tok tk, rfl, q⟩
theorem kit_tt (K : PySem.W.Frag) (T : String) : PySem.W.kitOne K (.type T) (.type T) = some true := by
  unfold PySem.W.kitOne
  rw [if_pos (by simp)]
theorem inst_ii (K : PySem.W.Frag) (H : Hp) (i : Int) : Inst K H (.int i) (.type "int") true := ⟨_, .int i, kit_tt K _⟩
theorem inst_ib (K : PySem.W.Frag) (H : Hp) (i : Int) : Inst K H (.int i) (.type "bool") false := ⟨_, .int i, by rfl⟩
theorem inst_ll {K : PySem.W.Frag} {H : Hp} {a : Addr} {xs : List V} (e : H a = some (.lst xs)) : Inst K H (.ref a) (.type "list") true := ⟨_, .lst e, kit_tt K _⟩
theorem inst_tt {K : PySem.W.Frag} {H : Hp} {a : Addr} {xs : List V} (e : H a = some (.tup xs)) : Inst K H (.ref a) (.type "tuple") true := ⟨_, .tup e, kit_tt K _⟩
/-- the name of a built-in type -/
theorem pe_ty {x : Str} {n : String} {pos : Pos} (hg : Gl X x) (hm : X.mg x = none) (hv : bootBuiltins x = some (.type n)) (hn : x ≠ "__name__" := by decide) (hd : (x == ("__debug__" : Str)) = false := by decide) : PE X (.Name x pos) (tC (.ty n)) :=
  pe_bltn hg hm hv rfl hn hd
end

/-! ### data, for == -/
mutual
inductive Dt (K : PySem.W.Frag) (H : Hp) : V → PyData → Prop
  | non : Dt K H .non .none
  | bl (b : Bool) : Dt K H (.bl b) (.bool b)
  | int (i : Int) : Dt K H (.int i) (.int i)
  | str (x : Str) : Dt K H (.str x) (.str x)
  | lst {a : Addr} {xs : List V} {ds : List PyData} : SqL K H a xs → Dts K H xs ds → Dt K H (.ref a) (.list ds)
  | tup {a : Addr} {xs : List V} {ds : List PyData} : SqT K H a xs → Dts K H xs ds → Dt K H (.ref a) (.tuple ds)
inductive Dts (K : PySem.W.Frag) (H : Hp) : List V → List PyData → Prop
  | nil : Dts K H [] []
  | cons {x : V} {xs : List V} {d : PyData} {ds : List PyData} : Dt K H x d → Dts K H xs ds → Dts K H (x :: xs) (d :: ds)
end
section
variable {X : Cx} {pins : List (Addr × Obj)} {σ : St} {H : Hp} {s : Shared}
mutual
theorem Dt.reads (I : Inv X pins σ H s) : ∀ {x : V} {d : PyData}, Dt X.K H x d → ∀ u, RelV x u → ∃ as, Reads s.heap u d as
  | _, _, .non, u, r => by cases (show u = Value.none from r); exact ⟨_, Reads.none⟩
  | _, _, .bl b, u, r => by cases (show u = Value.bool b from r); exact ⟨_, Reads.bool b⟩
  | _, _, .int i, u, r => by obtain ⟨t, rfl⟩ := (show ∃ t, u = Value.int i t from r); exact ⟨_, Reads.int i t⟩
  | _, _, .str y, u, r => by obtain ⟨t, rfl⟩ := (show ∃ t, u = Value.str y t from r); exact ⟨_, Reads.str y t⟩
  | _, _, .lst (a := a) hq hd, u, r => by
    cases (show u = Value.ref a from r)
    obtain ⟨its, rv, ⟨o, n, h1, h2, _, h4⟩, _⟩ := I.list hq
    obtain ⟨as, ha⟩ := Dts.reads I hd its rv
    exact ⟨_, Reads.list h1 h2 h4 ha⟩
  | _, _, .tup (a := a) hq hd, u, r => by
    cases (show u = Value.ref a from r)
    obtain ⟨its, rv, ⟨o, h1, h2, n, h4⟩, _⟩ := I.tuple hq
    obtain ⟨as, ha⟩ := Dts.reads I hd its rv
    exact ⟨_, Reads.tuple h1 h2 h4 ha⟩
theorem Dts.reads (I : Inv X pins σ H s) : ∀ {xs : List V} {ds : List PyData}, Dts X.K H xs ds → ∀ us, Vals xs us → ∃ as, ReadsAll s.heap us ds as
  | _, _, .nil, us, r => by cases r; exact ⟨_, ReadsAll.nil⟩
  | _, _, .cons h t, us, r => by
    cases r with
    | cons r1 r2 =>
      obtain ⟨as, ha⟩ := Dt.reads I h _ r1
      obtain ⟨bs, hb⟩ := Dts.reads I t _ r2
      exact ⟨_, ReadsAll.cons ha hb⟩
end
end
mutual
theorem Dt.same {K : PySem.W.Frag} {H H' : Hp} (e : Same H H') : ∀ {x : V} {d : PyData}, Dt K H x d → Dt K H' x d
  | _, _, .non => .non
  | _, _, .bl b => .bl b
  | _, _, .int i => .int i
  | _, _, .str y => .str y
  | _, _, .lst hq hd => .lst (e.seq hq) (Dts.same e hd)
  | _, _, .tup hq hd => .tup (e.tup hq) (Dts.same e hd)
theorem Dts.same {K : PySem.W.Frag} {H H' : Hp} (e : Same H H') : ∀ {xs : List V} {ds : List PyData}, Dts K H xs ds → Dts K H' xs ds
  | _, _, .nil => .nil
  | _, _, .cons h t => .cons (Dt.same e h) (Dts.same e t)
end
theorem Dts.ints {K : PySem.W.Frag} {H : Hp} : ∀ ns : List Int, Dts K H (ns.map V.int) (ns.map PyData.int)
  | [] => .nil
  | n :: r => .cons (.int n) (Dts.ints r)
section
variable {X : Cx}
theorem op_eqD (hu : X.A.units + 64 < cLine) : OpR X (compareOp .Eq) (fun x y H Q => ∃ d e, Dt X.K H x d ∧ Dt X.K H y e ∧ SeqAt.shaped d = true ∧ SeqAt.shaped e = true ∧ Q (.bl (PyData.eqv d e)) H) := by
  intro pins s σ H x y v u Q I rx ry h
  obtain ⟨d, e, hd, he, s1, s2, q⟩ := h
  obtain ⟨as, ra⟩ := hd.reads I _ rx
  obtain ⟨bs, rb⟩ := he.reads I _ ry
  exact eq_dataH ra rb s1 s2 hu ⟨.bl (PyData.eqv d e), H, I, rfl, q⟩
theorem op_neD (hu : X.A.units + 64 < cLine) : OpR X (compareOp .NotEq) (fun x y H Q => ∃ d e, Dt X.K H x d ∧ Dt X.K H y e ∧ SeqAt.shaped d = true ∧ SeqAt.shaped e = true ∧ Q (.bl (!PyData.eqv d e)) H) := by
  intro pins s σ H x y v u Q I rx ry h
  obtain ⟨d, e, hd, he, s1, s2, q⟩ := h
  obtain ⟨as, ra⟩ := hd.reads I _ rx
  obtain ⟨bs, rb⟩ := he.reads I _ ry
  exact ne_dataH ra rb s1 s2 hu ⟨.bl (!PyData.eqv d e), H, I, rfl, q⟩
end
theorem shaped_ints (ns : List Int) : SeqAt.shaped (.list (ns.map PyData.int)) = true := PySem.W.ke_shaped_ints ns
theorem eqv_ints : ∀ ns ms : List Int, PyData.eqvAll (ns.map PyData.int) (ms.map PyData.int) = decide (ns = ms)
  | [], [] => by simp [PyData.eqvAll]
  | [], _ :: _ => by simp [PyData.eqvAll]
  | _ :: _, [] => by simp [PyData.eqvAll]
  | a :: r, b :: t => by
    simp only [List.map_cons, PyData.eqvAll, PyData.eqv, eqv_ints r t]
    by_cases h : a = b <;> by_cases h' : r = t <;> simp [h, h']
end L2

namespace L2
open PySem PySem.Spec PyProof.Rows
section
variable {X : Cx}
end
end L2

/-! Own rules over the hand layer, 4: defs, classes and methods that are known, in one word each -/
namespace L2
open PySem PySem.Spec PyProof.Rows

/-- a def's own object -/
def FdAt (K : PySem.W.Frag) (f : Addr) (fd : FuncData) : Prop := ∃ oc od osl, K.lookup f = some ⟨oc, od, .func fd, osl⟩
theorem Fun.fdAt {K : PySem.W.Frag} {x q : Str} {st : Stmt} {f : Addr} {fd : FuncData} (F : Fun K x q st f fd) : FdAt K f fd := by
  obtain ⟨oc, od, kV, doc, pm, an, cdv, ct, osl, _, l, _⟩ := F.ex
  exact ⟨oc, od, osl, l⟩
theorem FdAt.unique {K : PySem.W.Frag} {f : Addr} {fd fd' : FuncData} (h : FdAt K f fd) (h' : FdAt K f fd') : fd = fd' := by
  obtain ⟨_, _, _, l⟩ := h
  obtain ⟨_, _, _, l'⟩ := h'
  rw [l] at l'
  cases l'
  rfl
/-- a def of the text stands under its name and keeps its promise -/
def Known (P : Program) (w : World) (K : PySem.W.Frag) (mg : Str → Option Value) (base : Heap) (k : Nat) (x : Str) (ps : List Str) (sp : Sp) : Prop :=
  ∃ f fd, FnOk P w K mg base CX0 k f fd ps sp ∧ PySem.W.keepIn K (.ref f) = true ∧ Binds K fd ps [] ∧ mg x = some (.ref f) ∧ FdAt K f fd
/-- a method of the class at C -/
def KnownM (P : Program) (w : World) (K : PySem.W.Frag) (mg : Str → Option Value) (base : Heap) (k : Nat) (C : Addr) (m : Str) (ps : List Str) (sp : Sp) : Prop :=
  ∃ f fd, FnOk P w K mg base CX0 k f fd ps sp ∧ Meth K C m f ∧ Binds K fd ps []
/-- a class that is made by its __init__ -/
def KnownC (P : Program) (w : World) (K : PySem.W.Frag) (mg : Str → Option Value) (base : Heap) (k : Nat) (C : Addr) (x : Str) (ps : List Str) (sp : Sp) : Prop :=
  ∃ f fd, FnOk P w K mg base CX0 k f fd ps sp ∧ Mk K C f ∧ Binds K fd ps [] ∧ mg x = some (.ref C)
/-- a def as the top has left it -/
def TopFn (K : PySem.W.Frag) (mg : Str → Option Value) (x : Str) (st : Stmt) (ps : List Str) : Prop :=
  ∃ f fd, Fun K x x st f fd ∧ Binds K fd ps [] ∧ mg x = some (.ref f)
def TopM (K : PySem.W.Frag) (C : Addr) (x q : Str) (st : Stmt) (ps : List Str) : Prop :=
  ∃ f fd, Fun K x q st f fd ∧ Binds K fd ps [] ∧ Meth K C x f
def TopI (K : PySem.W.Frag) (mg : Str → Option Value) (C : Addr) (x q : Str) (st : Stmt) (ps : List Str) : Prop :=
  ∃ f fd, Fun K "__init__" q st f fd ∧ Binds K fd ps [] ∧ Mk K C f ∧ mg x = some (.ref C)

section
variable {P : Program} {w : World} {K : PySem.W.Frag} {mg : Str → Option Value} {base : Heap} {k : Nat} {x q : Str} {C : Addr} {st : Stmt} {N ps : List Str} {sp : Sp}
/-- THE RULE for a def, a method, an __init__, by its body and the body's reading -/
theorem Known.of (F : TopFn K mg x st ps) (S : FnScope N ps (defScope st)) (len : ∀ vs H Q E, sp vs H Q E → vs.length = ps.length)
    (body : ∀ (f : Addr) (cdv : Value) (A : Around) (outer : List Env) (s : Shared) (H : Hp) (vs : List V) (Q : VK) (E : XK), Room k (A.deeper (envOfC x (defScope st) s.heap.objs.size f cdv)) → sp vs H Q E →
      ∃ t, PSs (cxOf CX0 P w K mg base N x (defScope st) f cdv A outer s H E).nox (defBody st) t ∧ t { nx := fun _ H' => Q .non H', rt := Q } (start N vs) H) : Known P w K mg base (k + 1) x ps sp := by
  obtain ⟨f, fd, F, b, m⟩ := F
  exact ⟨f, fd, F.ok S len (body f), F.kp, b, m, F.fdAt⟩
theorem KnownM.of (F : TopM K C x q st ps) (S : FnScope N ps (defScope st)) (len : ∀ vs H Q E, sp vs H Q E → vs.length = ps.length)
    (body : ∀ (f : Addr) (cdv : Value) (A : Around) (outer : List Env) (s : Shared) (H : Hp) (vs : List V) (Q : VK) (E : XK), Room k (A.deeper (envOfC q (defScope st) s.heap.objs.size f cdv)) → sp vs H Q E →
      ∃ t, PSs (cxOf CX0 P w K mg base N q (defScope st) f cdv A outer s H E).nox (defBody st) t ∧ t { nx := fun _ H' => Q .non H', rt := Q } (start N vs) H) : KnownM P w K mg base (k + 1) C x ps sp := by
  obtain ⟨f, fd, F, b, m⟩ := F
  exact ⟨f, fd, F.ok S len (body f), m, b⟩
theorem KnownC.of (F : TopI K mg C x q st ps) (S : FnScope N ps (defScope st)) (len : ∀ vs H Q E, sp vs H Q E → vs.length = ps.length)
    (body : ∀ (f : Addr) (cdv : Value) (A : Around) (outer : List Env) (s : Shared) (H : Hp) (vs : List V) (Q : VK) (E : XK), Room k (A.deeper (envOfC q (defScope st) s.heap.objs.size f cdv)) → sp vs H Q E →
      ∃ t, PSs (cxOf CX0 P w K mg base N q (defScope st) f cdv A outer s H E).nox (defBody st) t ∧ t { nx := fun _ H' => Q .non H', rt := Q } (start N vs) H) : KnownC P w K mg base (k + 1) C x ps sp := by
  obtain ⟨f, fd, F, b, m, e⟩ := F
  exact ⟨f, fd, F.ok S len (body f), m, b, e⟩
end

section
variable {X : Cx} {k : Nat} {x m : Str} {ps : List Str} {sp : Sp} {e o : Expr} {es : List Expr} {t : TA} {ta : TE} {p pos apos : Pos} {C : Addr}
theorem pe_globI {i : Int} (hg : Gl X x) (hm : ∃ t, X.mg x = some (.int i t)) (hd : (x == ("__debug__" : Str)) = false := by decide) : PE X (.Name x pos) (tC (.int i)) := by
  obtain ⟨t, hm⟩ := hm
  exact pe_glob hg hm ⟨t, rfl⟩ hd
theorem pe_fn (h : Known X.prog X.w X.K X.mg X.base k x ps sp) (hr : Room k X.A) (hg : Gl X x) (ha : PA X (e :: es) t) (hdb : (x == ("__debug__" : Str)) = false := by decide)
    (he : starEach (e :: es) X.env = (false, eval e X.env) :: starEach es X.env := by rfl) (hpl : (backTo pos (starEach es X.env)).any (·.1) = false := by rfl) : PE X (.Call (.Name x p) (e :: es) [] pos) (tCall sp [] E0 t) := by
  obtain ⟨f, fd, G, kp, b, m, _⟩ := h
  exact pe_call G hr hg m kp b .nil pass0 ha hdb he hpl
theorem pe_fn0 (h : Known X.prog X.w X.K X.mg X.base k x ps sp) (hr : Room k X.A) (hg : Gl X x) (hdb : (x == ("__debug__" : Str)) = false := by decide) : PE X (.Call (.Name x p) [] [] pos) (tCall sp [] E0 tNil) := by
  obtain ⟨f, fd, G, kp, b, m, _⟩ := h
  exact pe_call0 G hr hg m kp b .nil pass0 hdb
end

end L2

/-! ### Python's own names -/
namespace L2
open PySem PySem.Spec PyProof.Rows
theorem bt_isinstance : bootBuiltins "isinstance" = some (.builtin "isinstance") := by decide +kernel
theorem bt_len : bootBuiltins "len" = some (.builtin "len") := by decide +kernel
theorem bt_sum : bootBuiltins "sum" = some (.builtin "sum") := by decide +kernel
theorem bt_all : bootBuiltins "all" = some (.builtin "all") := by decide +kernel
theorem bt_any : bootBuiltins "any" = some (.builtin "any") := by decide +kernel
theorem bt_sorted : bootBuiltins "sorted" = some (.builtin "sorted") := by decide +kernel
theorem bt_int : bootBuiltins "int" = some (.type "int") := by decide +kernel
theorem bt_bool : bootBuiltins "bool" = some (.type "bool") := by decide +kernel
theorem bt_str : bootBuiltins "str" = some (.type "str") := by decide +kernel
theorem bt_list : bootBuiltins "list" = some (.type "list") := by decide +kernel
theorem bt_tuple : bootBuiltins "tuple" = some (.type "tuple") := by decide +kernel
end L2

/-! ### forms one uses: a comprehension over a list that makes nothing on its way -/
namespace L2
open PySem PySem.Spec PyProof.Rows
theorem cxOf_K {CX : CXT} {P : Program} {w : World} {K : PySem.W.Frag} {mg : Str → Option Value} {base : Heap} {N : List Str} {q : Str} {sc : Scope} {f : Addr} {cd : Value} {A : Around} {o : List Env} {s : Shared} {H : Hp} {E : XK} :
    (cxOf CX P w K mg base N q sc f cd A o s H E).K = K := rfl
theorem comp_list {K : PySem.W.Frag} {a : Addr} {xs : List V} {ρ : St} {v0 : Option V} {te : TE} {Q : VK} {H : Hp} (f : V → V) (hl : SqL K H a xs) (hz : xs.length ≤ sizeLine)
    (hf : ∀ x ∈ xs, ∀ R : VK, R (f x) H → te (some x :: ρ) H R) (hq : ∀ D, H D = none → Q (.ref D) (upd H D (.lst (xs.map f)))) :
    ∃ W : Nat → Nat → List V → St → Hp → Prop, (∃ m, W 0 m [] (v0 :: ρ) H) ∧ CompW (Itl K a) (gName 0) tAll te Q W := by
  refine ⟨fun i m acc σ H' => m = xs.length - i ∧ i ≤ xs.length ∧ acc = (xs.take i).map f ∧ H' = H ∧ ∃ v, σ = v :: ρ, ⟨xs.length, rfl, Nat.zero_le _, rfl, rfl, v0, rfl⟩, ?_⟩
  rintro i m acc σ H' ⟨rfl, hi, rfl, rfl, v, rfl⟩
  by_cases hlt : i < xs.length
  · refine .inr ⟨⟨xs, xs[i], hl, by simp [hlt]⟩, ?_, fun x H2 y => ?_⟩
    · rw [List.length_map, List.length_take]
      omega
    · obtain ⟨e, y⟩ := y
      subst e
      have hx : xs[i]? = some x := y xs hl
      have hxe : xs[i] = x := by
        rw [List.getElem?_eq_getElem hlt] at hx
        exact Option.some.inj hx
      simp only [gName, tAll, List.set_cons_zero, if_true]
      refine hf x (hxe ▸ List.getElem_mem hlt) _ ⟨xs.length - (i + 1), by omega, rfl, hlt, ?_, rfl, _, rfl⟩
      rw [List.take_succ_eq_append_getElem hlt, List.map_append, hxe]
      rfl
  · have e : i = xs.length := by omega
    subst e
    refine .inl ⟨⟨xs, hl, Nat.le_refl _⟩, fun D hD => ?_⟩
    rw [List.take_length]
    exact hq D hD
theorem rd_comp {K : PySem.W.Frag} {i : Nat} {a : Addr} {xs : List V} {cap : List (Option Nat)} {σ : St} {te : TE} {Q : VK} {H : Hp} (f : V → V) (hσ : σ[i]? = some (some (.ref a))) (hl : SqL K H a xs) (hz : xs.length ≤ sizeLine)
    (hf : ∀ x ∈ xs, ∀ R : VK, R (f x) H → te (some x :: capV cap σ) H R) (hq : ∀ D, H D = none → Q (.ref D) (upd H D (.lst (xs.map f)))) :
    tComp (iList K (tVar i)) (none :: cap) (gName 0) tAll te σ H Q :=
  ⟨_, hσ, a, rfl, ⟨xs, hl⟩, comp_list f hl hz hf hq⟩
/-- an object of one field, of two -/
def At1 (H : Hp) (p C : Addr) (f : Str) (x : V) : Prop := ∃ dx fs, H p = some (.ins C dx fs) ∧ fs.lookup f = some x ∧ fs.lookup ("shows" : Str) = none
def At2 (H : Hp) (p C : Addr) (f g : Str) (x y : V) : Prop := ∃ dx fs, H p = some (.ins C dx fs) ∧ fs.lookup f = some x ∧ fs.lookup g = some y ∧ fs.lookup ("shows" : Str) = none
theorem At1.same {H H' : Hp} {p C : Addr} {f : Str} {x : V} (s : Same H H') (h : At1 H p C f x) : At1 H' p C f x := by
  obtain ⟨dx, fs, h1, h2⟩ := h
  exact ⟨dx, fs, s _ _ h1, h2⟩
theorem At2.same {H H' : Hp} {p C : Addr} {f g : Str} {x y : V} (s : Same H H') (h : At2 H p C f g x y) : At2 H' p C f g x y := by
  obtain ⟨dx, fs, h1, h2⟩ := h
  exact ⟨dx, fs, s _ _ h1, h2⟩
theorem scal_ii (a b : Int) : scal (.int a) (.int b) = true := rfl
theorem scal_ss (a b : Str) : scal (.str a) (.str b) = true := rfl
theorem scal_bb (a b : Bool) : scal (.bl a) (.bl b) = true := rfl
end L2

/-! Own rules over the hand layer, 5: range with a step -/
namespace L2
open PySem PySem.Spec PyProof.Rows
section
variable {X : Cx} {tg : Expr}
end
end L2

/-! rules within a comprehension: the frame's own K, written -/
namespace L2
open PySem PySem.Spec PyProof.Rows
end L2

/-! Own rules over the hand layer, 7: comprehensions with a test -/
namespace L2
open PySem PySem.Spec PyProof.Rows
/-- the name of an own class -/
theorem pe_cls {X : Cx} {x : Str} {a : Addr} {pos : Pos} (hg : Gl X x) (hm : X.mg x = some (.ref a)) (hd : (x == ("__debug__" : Str)) = false := by decide) : PE X (.Name x pos) (tC (.ref a)) :=
  pe_glob (v := .ref a) hg hm rfl hd
/-! ### a comparison of three links -/
def tChain3 (r r' r'' : R2) (ta tb tc td : TE) : TE := fun σ H Q => ta σ H fun x H1 => tb σ H1 fun y H2 => r x y H2 fun z H3 => ∃ k, z = .bl k ∧
  (if k = true then tc σ H3 fun w' H4 => r' y w' H4 fun z' H5 => ∃ k', z' = .bl k' ∧ (if k' = true then td σ H5 fun v' H6 => r'' w' v' H6 Q else Q (.bl false) H5) else Q (.bl false) H3)
end L2

/-! Own rules over the hand layer, 8: the law itself, for the closing theorem -/
namespace L2
open PySem PySem.Spec PyProof.Rows
theorem top_law {P : Program} {w : World} {K : PySem.W.Frag} {mg : Str → Option Value} {fa : Addr} {st : Stmt} {sp : Sp} {k : Nat} (F : TopFn K mg "law" st ["_law_script"]) (hmg : mg "law" = some (.ref fa)) (hk : k ≤ 60)
    (L : ∀ base : Heap, Known P w K mg base k "law" ["_law_script"] sp) (hb : ∀ (kV doc pm : Value) (an : Option Addr) (cdv ct : Value) (s : Shared) (u : Value), BindsTo s (PySem.W.fnOf "law" "law" (defArgs st) (defBody st) (defScope st) .none kV doc pm an cdv ct) ⟨[u], []⟩ [("_law_script", u)]) :
    ∃ fd : FuncData, (∀ (s : Shared) (u : Value), BindsTo s fd ⟨[u], []⟩ [("_law_script", u)]) ∧ ∀ base : Heap, K.In base → base.Ns mainGlobals mg → FnOk P w K mg base CX0 60 fa fd ["_law_script"] sp := by
  obtain ⟨f, fd, G, b, m⟩ := F
  have e : f = fa := by
    have := m.symm.trans hmg
    cases this
    rfl
  subst e
  have hB : ∀ (s : Shared) (u : Value), BindsTo s fd ⟨[u], []⟩ [("_law_script", u)] := by
    obtain ⟨oc, od, kV, doc, pm, an, cdv, ct, osl, rfl, l, _⟩ := G.ex
    exact hb kV doc pm an cdv ct
  refine ⟨fd, hB, fun base _ _ => ?_⟩
  obtain ⟨f', fd', G', _, _, m', a'⟩ := L base
  have e : f' = f := by
    have := m'.symm.trans hmg
    cases this
    rfl
  subst e
  rw [G.fdAt.unique a']
  exact G'.mono hk
/-- isinstance asked of an own class -/
theorem kit_sub {K : PySem.W.Frag} {C1 C2 : Addr} {v : Bool} (hne : C1 ≠ C2) (hc : PySem.W.isClsIn K C2 = true) (ht : PySem.W.typeIn K (.ref C2) = some (.type "type")) (hs : PySem.W.subIn K (.ref C1) (.ref C2) = some v) : PySem.W.kitOne K (.ref C1) (.ref C2) = some v := by
  unfold PySem.W.kitOne
  rw [if_neg (fun z => hne (by simpa using z))]
  unfold PySem.W.kitCls
  have e : (PySem.W.clsIn K C2).isSome = true := hc
  simp only [e, ht, hs]
  simp
theorem kit_rr (K : PySem.W.Frag) (C : Addr) : PySem.W.kitOne K (.ref C) (.ref C) = some true := by
  unfold PySem.W.kitOne
  rw [if_pos (by simp)]
end L2

namespace L2
open PySem PySem.Spec PySem.W PyProof.Rows
/-! ### exceptions in flight, by their whole object -/
def excObj (cls : Value) (t : Addr) (tb : Value) : Obj := { cls := cls, data := .fields #[.ref t, tb, .none, .none, .bool false, .none] }
/-- e is of the class cls; its newest entry T says fl of where it flies; B stays -/
def FlyX (B : Heap) (l : List Env) (e : Addr) (cls : Value) (t : Addr) (fl : Value) (h : Heap) : Prop :=
  B.StaysIn h ∧ B.get? e = none ∧ h.FunFrames B l ∧ ∃ T oT ts, h.get? e = some (excObj cls t (.ref T)) ∧ B.get? T = none ∧ T ≠ e ∧ h.get? T = some oT ∧ oT.data = .fields ts ∧ ts[3]? = some fl
section
variable {M : Model} {A : Around} {E : Value → Shared → Prop} {s : Shared} {B : Heap} {env : Env} {outer l : List Env} {L e t : Addr} {cls : Value} {Q : Unit → Shared → Prop}
theorem fly_entry {head : Value} {hn : Bool} (hfr : A.frames = some (env :: outer)) (hl : s.heap.FunFrames B (env :: outer)) (hf : env.frame = some L) (he : s.heap.get? e = some (excObj cls t head)) (hB : B.StaysIn s.heap) (hen : B.get? e = none)
    (q : ∀ h', FlyX B (env :: outer) e cls t (rawInt L) h' → s.heap.UpToSlots h' → Q () { s with heap := h' }) :
    wpAny M A (frameOf env >>= fun a => entryPlaceOf L hn >>= fun pl => EntryCells.newEntry head a .none (rawInt L) .none pl >>= fun b => setField (.ref e) 1 b) Q E s := by
  have hd : (excObj cls t head).data = .fields #[.ref t, head, .none, .none, .bool false, .none] := rfl
  have hne : e ∉ (env :: outer).filterMap (·.frame) := fun hm => by
    obtain ⟨_, o, ho, hnf⟩ := hl.mem hm
    rw [he] at ho
    cases ho
    exact hnf _ hd
  refine wpAny_bind (wpAny_frameOf_fun hfr hl hf fun h1 hs1 => ?_)
  refine wpAny_bind (wpAny_entryPlaceOf fun pl hpl => ?_)
  unfold EntryCells.newEntry newFields
  refine wpAny_bind (wpAny_newObj_type ?_ (hpl.sizeOk5 _ _ _ _ _))
  generalize hO : ({ cls := .type "traceback", dict := none, data := .fields ([head, .ref L, .none, rawInt L, .none] ++ (if pl.isEmpty then List.replicate 6 Value.none else pl)).toArray } : Obj) = O
  have he1 : h1.get? e = some (excObj cls t head) := (hs1.2.1 e hne).trans he
  have hB1 : B.StaysIn h1 := fun b o hbo => (hs1.2.1 b fun hm => by rw [(hl.mem hm).1] at hbo; cases hbo).trans (hB b o hbo)
  have he2 : (h1.push O).get? e = some (excObj cls t head) := Heap.get?_push_of_some O he1
  have hT2 : (h1.push O).get? h1.objs.size = some O := Heap.get?_push_size h1 (by rw [← hO]; rfl)
  have hTe : h1.objs.size ≠ e := Nat.ne_of_gt (Heap.lt_size he1)
  have hTB : B.get? h1.objs.size = none := hB1.fresh
  show wpAny _ _ (setField _ _ _) _ _ { s with heap := h1.push O }
  refine wpAny_setField he2 hd (by show 1 < 6; decide) (q _ ?_ ?_)
  · have he3 : ((h1.push O).update e (Obj.mapFields (·.setIfInBounds 1 (Value.ref h1.objs.size)))).get? e = some (excObj cls t (.ref h1.objs.size)) := Heap.get?_update_self (Obj.mapFields (·.setIfInBounds 1 (Value.ref h1.objs.size))) he2 rfl
    have oth : ∀ b, b ≠ e → ((h1.push O).update e (Obj.mapFields (·.setIfInBounds 1 (Value.ref h1.objs.size)))).get? b = (h1.push O).get? b := fun b hb => Heap.get?_update_other _ _ (Ne.symm hb)
    refine ⟨fun b o hbo => ?_, hen, ?_, h1.objs.size, O, _, he3, hTB, hTe, (oth _ hTe).trans hT2, by rw [← hO], ?_⟩
    · rw [oth b (fun z => by rw [z, hen] at hbo; cases hbo)]
      exact Heap.get?_push_of_some O (hB1 b o hbo)
    · refine (hl.of_slotsOnly hs1).of_keeps fun b o hb hnf => ⟨o, ?_, rfl⟩
      rw [oth b (fun z => by rw [z, he1] at hb; cases hb; exact hnf _ hd)]
      exact Heap.get?_push_of_some O hb
    · rcases hpl with rfl | ⟨_, _, _, _, _, _, _, rfl⟩ <;> simp
  · intro b o hb hnf
    obtain ⟨sl, hs⟩ := hs1.2.2 b o hb
    refine ⟨sl, ?_⟩
    rw [Heap.get?_update_other _ _ (fun z : e = b => by rw [← z, he] at hb; cases hb; exact hnf _ hd)]
    exact Heap.get?_push_of_some O hs
theorem fly_set {fl fl' : Value} (x : FlyX B l e cls t fl s.heap) {T : Addr} (hT : s.heap.get? e = some (excObj cls t (.ref T))) (q : ∀ h', FlyX B l e cls t fl' h' → s.heap.UpToSlots h' → h'.get? e = some (excObj cls t (.ref T)) → Q () { s with heap := h' }) : wpAny M A (setField (.ref T) 3 fl') Q E s := by
  obtain ⟨x1, x2, x3, T', oT, ts, x4, x5, x6, x7, x8, x9⟩ := x
  rw [hT] at x4
  have eT : T = T' := by
    injection x4 with x4
    unfold excObj at x4
    injection x4 with _ _ x4
    injection x4 with x4
    simpa using x4
  subst eT
  have sz : 3 < ts.size := (Array.getElem?_eq_some_iff.mp x9).1
  have oth : ∀ b, b ≠ T → (s.heap.update T (Obj.mapFields (·.setIfInBounds 3 fl'))).get? b = s.heap.get? b := fun b hb => Heap.get?_update_other _ _ (Ne.symm hb)
  have nr : ∀ b o, s.heap.get? b = some o → (∀ vs, o.data ≠ .fields vs) → b ≠ T := fun b o hb hnf z => by
    rw [z, x7] at hb
    cases hb
    exact hnf ts x8
  refine wpAny_setField x7 x8 sz (q _ ⟨fun b o hb => ?_, x2, x3.of_keeps fun b o hb hnf => ⟨o, (oth b (nr b o hb hnf)).trans hb, rfl⟩, T, _, _, (oth e (Ne.symm x6)).trans hT, x5, x6, Heap.get?_update_self _ x7 (Obj.isFreed_of_fields (Obj.data_mapFields x8 _)), Obj.data_mapFields x8 _, by simp [sz]⟩ (fun b o hb hnf => ⟨o.slots, (oth b (nr b o hb hnf)).trans hb⟩) ((oth e (Ne.symm x6)).trans hT))
  rw [oth b (fun z => by rw [z, x5] at hb; cases hb)]
  exact x1 b o hb
theorem fly_flight {fl : Value} {fr : Option Addr} (x : FlyX B l e cls t fl s.heap) (q : ∀ h', FlyX B l e cls t (fr.elim .none fun f => rawInt f) h' → s.heap.UpToSlots h' → Q () { s with heap := h' }) : wpAny M A (setFlight (.ref e) fr) Q E s := by
  obtain ⟨T, oT, ts, x4, _⟩ := x.2.2.2
  unfold setFlight
  refine wpAny_bind (wpAny_field x4 rfl (x := .ref T) rfl ?_)
  rw [if_pos (show (Value.ref T != Value.none) = true from by simp)]
  exact fly_set x x4 fun h' a b _ => q h' a b
/-- an entry for this frame: of a new one, of one that comes from below, of one that has it -/
theorem fly_note0 (hfr : A.frames = some (env :: outer)) (hl : s.heap.FunFrames B (env :: outer)) (hf : env.frame = some L) (he : s.heap.get? e = some (excObj cls t .none)) (hB : B.StaysIn s.heap) (hen : B.get? e = none)
    (q : ∀ h', FlyX B (env :: outer) e cls t (rawInt L) h' → s.heap.UpToSlots h' → Q () { s with heap := h' }) : wpAny M A (noteFrame (.ref e) env) Q E s := by
  unfold noteFrame
  simp only [hf]
  refine wpAny_bind (wpAny_field he rfl (x := .none) rfl ?_)
  rw [if_neg (by decide)]
  exact fly_entry hfr hl hf he hB hen q
theorem fly_note (hfr : A.frames = some (env :: outer)) (hf : env.frame = some L) (x : FlyX B (env :: outer) e cls t .none s.heap) (q : ∀ h', FlyX B (env :: outer) e cls t (rawInt L) h' → s.heap.UpToSlots h' → Q () { s with heap := h' }) : wpAny M A (noteFrame (.ref e) env) Q E s := by
  obtain ⟨T, oT, ts, x4, x5, x6, x7, x8, x9⟩ := x.2.2.2
  unfold noteFrame
  simp only [hf]
  refine wpAny_bind (wpAny_field x4 rfl (x := .ref T) rfl ?_)
  rw [if_pos (show (Value.ref T != Value.none) = true from by simp)]
  refine wpAny_bind (wpAny_field x7 x8 x9 ?_)
  rw [if_neg (show ¬ ((Value.none == rawInt L) = true) from by simp [rawInt])]
  refine wpAny_bind (fly_set (fl' := .none) x x4 fun h1 y up y4 => ?_)
  exact fly_entry (s := { s with heap := h1 }) hfr y.2.2.1 hf y4 y.1 y.2.1 fun h' z up2 => q h' z (up.trans up2)
theorem FlyX.pop {fl : Value} (x : FlyX B (env :: outer) e cls t fl s.heap) : FlyX B outer e cls t fl s.heap := ⟨x.1, x.2.1, x.2.2.1.2.2, x.2.2.2⟩
/-- the frame is left -/
theorem fly_leave0 (hfr : A.frames = some (env :: outer)) (hl : s.heap.FunFrames B (env :: outer)) (hf : env.frame = some L) (he : s.heap.get? e = some (excObj cls t .none)) (hB : B.StaysIn s.heap) (hen : B.get? e = none)
    (q : ∀ h', FlyX B outer e cls t .none h' → s.heap.UpToSlots h' → Q () { s with heap := h' }) : wpAny M A (leaving env (.ref e)) Q E s := by
  unfold leaving
  exact wpAny_bind (fly_note0 hfr hl hf he hB hen fun h1 x up => fly_flight (s := { s with heap := h1 }) x fun h2 y up2 => q h2 (FlyX.pop (s := { s with heap := h2 }) y) (up.trans up2))
theorem fly_leave (hfr : A.frames = some (env :: outer)) (hf : env.frame = some L) (x : FlyX B (env :: outer) e cls t .none s.heap) (q : ∀ h', FlyX B outer e cls t .none h' → s.heap.UpToSlots h' → Q () { s with heap := h' }) : wpAny M A (leaving env (.ref e)) Q E s := by
  unfold leaving
  exact wpAny_bind (fly_note hfr hf x fun h1 x up => fly_flight (s := { s with heap := h1 }) x fun h2 y up2 => q h2 (FlyX.pop (s := { s with heap := h2 }) y) (up.trans up2))
end
/-! ### exceptions: how one lies behind a call -/
/-- e flies: all that is tracked or was there is in B, and B stays -/
def CX1 (P : Program) (w : World) : CXT := fun outer H s E e s' => ∃ (ea t : Addr) (cls : Value) (B : Heap) (H' : Hp), e = .ref ea ∧ s'.os = s.os ∧ AllBare s'.gens ∧ Un (frs outer) [] H H' s.heap s'.heap ∧ HOk P w H' s'.heap ∧
  FlyX B outer ea cls t .none s'.heap ∧ (∀ b o, s'.heap.get? b = some o → b ∉ frs outer → ((∃ u, H' b = some u) ∨ ∃ o', s.heap.get? b = some o') → B.get? b = some o) ∧ E cls none H'
section
variable {P : Program} {w : World} {H : Hp} {h h' B : Heap}
theorem ObjOk.ex {a : Addr} {o : HO} (x : ObjOk P w H h a o) : ∃ u, h.get? a = some u := by
  cases o with
  | lst xs => obtain ⟨_, _, _, _, e⟩ := x; exact ⟨_, e⟩
  | tup xs => obtain ⟨_, _, _, o, e, _⟩ := x; exact ⟨_, e⟩
  | dK kvs => obtain ⟨_, _, _, _, o, _, _, e, _⟩ := x; exact ⟨_, e⟩
  | dT kvs => obtain ⟨_, _, _, _, o, _, _, e, _⟩ := x; exact ⟨_, e⟩
  | set S n => obtain ⟨o, _, _, _, e, _⟩ := x; exact ⟨_, e⟩
  | ins C dx fs => obtain ⟨_, _, _, e, _⟩ := x; exact ⟨_, e⟩
  | own y => exact x
  | xd fs => obtain ⟨_, ⟨_, _, _, e, _⟩, _⟩ := x; exact ⟨_, e⟩
  | rng lo hi => obtain ⟨_, _, _, e⟩ := x; exact ⟨_, e⟩
  | frz ob u => obtain ⟨e, _⟩ := x; exact ⟨_, e⟩
  | tbl ps => exact ⟨_, show h.get? a = some _ from x⟩
  | met f y => exact ⟨_, show h.get? a = some _ from x⟩
  | ext φ => obtain ⟨_, e, _⟩ := x; exact e
/-- what is tracked lies in what stays -/
theorem fly_hok (hok : HOk P w H h) (cov : ∀ b o, h.get? b = some o → (∃ u, H b = some u) → B.get? b = some o) (st : B.StaysIn h') : HOk P w H h' := fun a o e =>
  (hok a o e).stay (fun b u hb q => st b u (cov b u q (by
    rcases hb with z | z
    · exact ⟨o, z ▸ e⟩
    · exact ⟨_, z⟩))) (fun _ q => q) fun _ _ q => q
end
section
variable {P : Program} {w : World} {K : PySem.W.Frag} {mg : Str → Option Value} {base : Heap} {N : List Str} {qual : Str} {scope : Scope} {f : Addr} {cd : Value} {A : Around} {outer : List Env} {s : Shared} {H : Hp} {E : XK}
/-- behind the frame: how the state lies that a caller sees -/
theorem fly_out {pins : List (Addr × Obj)} {σ : St} {H1 H' : Hp} {s1 s' : Shared} {ea t : Addr} {cls : Value} {h' : Heap} (I : Inv (cxOf (CX1 P w) P w K mg base N qual scope f cd A outer s H E) pins σ H1 s1)
    (os : s'.os = s1.os) (bare : AllBare s'.gens) (un : Un (frs (cxOf (CX1 P w) P w K mg base N qual scope f cd A outer s H E).stack) [] H1 H' s1.heap s'.heap) (hok : HOk P w H' s'.heap)
    (cov : ∀ b o, s'.heap.get? b = some o → b ∉ frs (cxOf (CX1 P w) P w K mg base N qual scope f cd A outer s H E).stack → ((∃ u, H' b = some u) ∨ ∃ o', s1.heap.get? b = some o') → B.get? b = some o)
    (fl : FlyX B outer ea cls t .none h') (up : s'.heap.UpToSlots h') (hE : E cls none H') : CX1 P w outer H s E (.ref ea) { s' with heap := h' } := by
  have ib : Un (frs outer) [] H H1 s.heap s1.heap := I.base
  have hst : frs (cxOf (CX1 P w) P w K mg base N qual scope f cd A outer s H E).stack = s.heap.objs.size :: frs outer := rfl
  have nfr : ∀ b o, s.heap.get? b = some o → b ∉ frs outer → b ∉ frs (cxOf (CX1 P w) P w K mg base N qual scope f cd A outer s H E).stack := fun b o e hb z => by
    rw [hst] at z
    rcases List.mem_cons.mp z with y | y
    · exact absurd (Heap.lt_size e) (by rw [y]; exact Nat.lt_irrefl _)
    · exact hb y
  have free' : ∀ b ∈ frs (cxOf (CX1 P w) P w K mg base N qual scope f cd A outer s H E).stack, H' b = none := fun b hb => by
    obtain ⟨_, o, ho, _⟩ := I.stack.mem hb
    exact un.free b o ho (I.stkFree b hb) (by simp)
  have frame' : ∀ b ∈ frs (cxOf (CX1 P w) P w K mg base N qual scope f cd A outer s H E).stack, ∃ o, s'.heap.get? b = some o ∧ ∀ vs, o.data ≠ .fields vs := fun b hb => by
    obtain ⟨_, o, ho, hd⟩ := I.stack.mem hb
    obtain ⟨sl, e⟩ := un.any ho (I.stkFree b hb) (by simp)
    exact ⟨_, e, hd⟩
  have covT : ∀ b o, s'.heap.get? b = some o → (∃ u, H' b = some u) → B.get? b = some o := fun b o e t => cov b o e (fun z => by
    obtain ⟨u, hu⟩ := t
    rw [free' b z] at hu
    cases hu) (.inl t)
  refine ⟨ea, t, cls, B, H', rfl, os.trans I.os, bare, ⟨fun b o e n hb hx => ?_, fun b o e n hb hx => ?_, fun b o e n hx => ?_, fun b o e hx => ?_, fun b xs e => un.tups b xs (ib.tups b xs e), fun b o u e => un.frzs b o u (ib.frzs b o u e), fun b ps e => ?_⟩, fly_hok hok covT fl.1, fl, fun b o e hb t => ?_, hE⟩
  · have e1 := ib.keep b o e n hb hx
    have e2 := un.keep b o e1 (ib.free b o e n hx) (nfr b o e hb) hx
    exact fl.1 b o (cov b o e2 (nfr b o e hb) (.inr ⟨o, e1⟩))
  · obtain ⟨sl, e1⟩ := ib.slot b o e n hb hx
    have hb' : b ∈ frs (cxOf (CX1 P w) P w K mg base N qual scope f cd A outer s H E).stack := by rw [hst]; exact List.mem_cons_of_mem _ hb
    obtain ⟨sl2, e2⟩ := un.slot b _ e1 (ib.free b o e n hx) hb' hx
    obtain ⟨o3, e3, hd⟩ := frame' b hb'
    rw [e2] at e3
    cases e3
    obtain ⟨sl3, e4⟩ := up b _ e2 hd
    exact ⟨sl3, e4⟩
  · obtain ⟨o1, e1⟩ := ib.there b o e hx
    exact un.free b o1 e1 (ib.free b o e n hx) hx
  · obtain ⟨o1, e1⟩ := ib.there b o e hx
    obtain ⟨o2, e2⟩ := un.there b o1 e1 hx
    by_cases hb : b ∈ frs (cxOf (CX1 P w) P w K mg base N qual scope f cd A outer s H E).stack
    · obtain ⟨o3, e3, hd⟩ := frame' b hb
      obtain ⟨sl3, e4⟩ := up b _ e3 hd
      exact ⟨_, e4⟩
    · exact ⟨o2, fl.1 b o2 (cov b o2 e2 hb (.inr ⟨o1, e1⟩))⟩
  · obtain ⟨m1, e1⟩ := ib.tbls b ps e
    obtain ⟨m2, e2⟩ := un.tbls b _ e1
    exact ⟨m1 ++ m2, by rw [e2, Array.append_assoc]⟩
  · have old : ∃ o', s'.heap.get? b = some o' ∧ B.get? b = some o' := by
      rcases t with t | ⟨o', e'⟩
      · obtain ⟨u, hu⟩ := t
        obtain ⟨o', e'⟩ := (hok b u hu).ex
        exact ⟨o', e', covT b o' e' ⟨u, hu⟩⟩
      · obtain ⟨o1, e1⟩ := ib.there b o' e' (by simp)
        obtain ⟨o2, e2⟩ := un.there b o1 e1 (by simp)
        exact ⟨o2, e2, cov b o2 e2 (nfr b o' e' hb) (.inr ⟨o1, e1⟩)⟩
    obtain ⟨o', _, e2⟩ := old
    have := fl.1 b o' e2
    have e : h'.get? b = some o := e
    rw [e] at this
    cases this
    exact e2
/-- an exception of a callee leaves this def too -/
theorem pass1 : Passes (CX1 P w) (cxOf (CX1 P w) P w K mg base N qual scope f cd A outer s H E) E := by
  rintro pins σ H1 s1 e s' I ⟨ea, t, cls, B, H', rfl, os, bare, un, hok, fl, cov, hE⟩
  show wpAny _ _ (leaving _ _) _ _ s'
  exact fly_leave I.ok.frames rfl fl fun h' fl' up => fly_out I os bare un hok cov fl' up hE
end
/-- an own class of exceptions as it lies there -/
def ExcAt (h : Heap) (C : Addr) (bmB : List Value) (newId : String) : Prop :=
  ∃ bm N nm q bs hd sn sub ab col dd k0 k1 k2 k3 k5 mN, h.get? C = some (excClassObj nm q C N bs bm hd sn sub ab col dd k0 k1 k2 k3 k5 newId) ∧ h.Ns N mN ∧ mN "__init__" = none ∧ OwnTail h bmB bm
theorem exc_at {K : PySem.W.Frag} {h : Heap} {C : Addr} {bmB : List Value} {newId : String} (X : K.In h) (z : excIn K C bmB newId = true) : ExcAt h C bmB newId := by
  unfold excIn at z
  split at z
  · rename_i dd cd sl ho
    split at z
    · rename_i C' bm k0 k1 k2 k3 n k5 hm hs
      simp only [Bool.and_eq_true, beq_iff_eq, Bool.not_eq_true'] at z
      obtain ⟨⟨⟨⟨⟨z1, z2⟩, z3⟩, z4⟩, z5⟩, z6⟩ := z
      subst z1
      subst z2
      cases cd with
      | mk nm bs mro ns qn hd sn sub ab col del =>
        dsimp only at hm z3 z5 z6
        subst hm
        subst z3
        have es : sl = #[k0, k1, k2, k3, some (.builtin n), k5] := by
          cases sl with
          | mk l => exact congrArg Array.mk hs
        subst es
        exact ⟨bm, ns, nm, qn, bs, hd, sn, sub, ab, col, dd, k0, k1, k2, k3, k5, _, X _ _ ho, .of_isNs (isNs_of_in X z5), nsMap_none_of_in X z5 z6, tail_of_in X z4⟩
    · cases z
  · cases z
abbrev bmVE : List Value := [.type "ValueError", .type "Exception", .type "BaseException", .type "object"]
section
variable {P : Program} {w : World} {K : PySem.W.Frag} {mg : Str → Option Value} {base : Heap} {N : List Str} {qual : Str} {scope : Scope} {f : Addr} {cd : Value} {A : Around} {outer : List Env} {s : Shared} {H : Hp} {E : XK}
/-- raise C("..") -/
theorem ps_raise {x : Str} {C : Addr} {msg : Str} {j : Nat} {np cp pp pos : Pos} (hg : Gl (cxOf (CX1 P w) P w K mg base N qual scope f cd A outer s H E) x) (hm : mg x = some (.ref C)) (hC : excIn K C bmVE "ValueError.__new__" = true)
    (hdb : (x == ("__debug__" : Str)) = false := by decide)
    (he : starEach [Expr.Constant (.str msg) j pp] (cxOf (CX1 P w) P w K mg base N qual scope f cd A outer s H E).env = [(false, eval (Expr.Constant (.str msg) j pp) (cxOf (CX1 P w) P w K mg base N qual scope f cd A outer s H E).env)] := by rfl) :
    PS (cxOf (CX1 P w) P w K mg base N qual scope f cd A outer s H E) (.Raise (some (.Call (.Name x np) [.Constant (.str msg) j pp] [] cp)) none pos) (fun _ _ H' => E (.ref C) none H') := by
  intro pins s1 σ H1 D I h
  obtain ⟨bm, N', nm, q, bs, hd, sn, sub, ab, col, dd, k0, k1, k2, k3, k5, mN, oC, hN, hi, T⟩ := exc_at I.kIn hC
  refine wpAny_Raise_call_subT (C := C) (nm := nm) (q := q) (N := N') (bs := bs) (bm := bm) (hdct := hd) (sn := sn) (sub := sub) (ab := ab) (col := col) (dd := dd) (k0 := k0) (k1 := k1) (k2 := k2) (k3 := k3) (k5 := k5) (mN := mN)
    PySem.F.excBase_ValueError (T.hasType PySem.F.excBase_ValueError.hasBase) (I.ok.hd rfl) (by rw [he]; rfl) hi (ld_glob I hg hm ⟨rfl, ?_⟩ hdb)
  rw [he]
  refine Calls.evalArgs_plain (Calls.spliced_cons (@Calls.Constant_str _ _ _ _ _ msg j pp _ (Calls.spliced_nil ⟨rfl, ?_, oC, hN, T, fun h' e hx => ?_⟩)))
  · show 1 ≤ sizeLine
    decide
  show wpAny _ _ (leaving _ _) _ _ _
  have hin : ∀ env ∈ (cxOf (CX1 P w) P w K mg base N qual scope f cd A outer s H E).stack, ∀ b, env.frame = some b → b ∈ frs (cxOf (CX1 P w) P w K mg base N qual scope f cd A outer s H E).stack := fun env he b hb => List.mem_filterMap.mpr ⟨env, he, hb⟩
  obtain ⟨t, oe, tn, ot⟩ := hx.there
  have hB : (hideAll s1.heap (frs (cxOf (CX1 P w) P w K mg base N qual scope f cd A outer s H E).stack)).StaysIn h' := fun b o z => hx.keeps b o (of_hideAll _ z)
  have hen : (hideAll s1.heap (frs (cxOf (CX1 P w) P w K mg base N qual scope f cd A outer s H E).stack)).get? e = none := by
    cases z : (hideAll s1.heap (frs (cxOf (CX1 P w) P w K mg base N qual scope f cd A outer s H E).stack)).get? e with
    | none => rfl
    | some o => have := of_hideAll _ z; rw [hx.new] at this; cases this
  refine fly_leave0 (B := hideAll s1.heap (frs (cxOf (CX1 P w) P w K mg base N qual scope f cd A outer s H E).stack)) (t := t) (cls := .ref C) I.ok.frames ((funFrames_hide I.stack hin).of_keeps fun b o z _ => ⟨o, hx.keeps b o z, rfl⟩) rfl oe hB hen fun h2 x1 x4 => ?_
  refine fly_out (s' := { s1 with heap := h', toks := _ }) I rfl I.bare (Un.kept hx.keeps) (I.hok.kept hx.keeps) (fun b o e hb ht => ?_) x1 x4 h
  have old : ∃ o', s1.heap.get? b = some o' := by
    rcases ht with ⟨u, hu⟩ | z
    · exact (I.hok b u hu).ex
    · exact z
  obtain ⟨o', e'⟩ := old
  have e2 := hx.keeps b o' e'
  have e : h'.get? b = some o := e
  rw [e] at e2
  cases e2
  exact hideAll_get _ e' hb
end
end L2

/-! Own rules over the hand layer, 11: exceptions through defs, comprehensions -/
namespace L2
open PySem PySem.Spec PySem.W PyProof.Rows
section
variable {M : Model} {A : Around} {E : Value → Shared → Prop} {s : Shared} {B : Heap} {env : Env} {outer l : List Env} {L e t : Addr} {cls : Value} {Q : Unit → Shared → Prop}
/-- an entry for this frame, wherever it flies -/
theorem fly_noteA {fl : Value} (hfr : A.frames = some (env :: outer)) (hf : env.frame = some L) (x : FlyX B (env :: outer) e cls t fl s.heap)
    (q : ∀ h', FlyX B (env :: outer) e cls t (rawInt L) h' → s.heap.UpToSlots h' → Q () { s with heap := h' }) : wpAny M A (noteFrame (.ref e) env) Q E s := by
  obtain ⟨T, oT, ts, x4, x5, x6, x7, x8, x9⟩ := x.2.2.2
  unfold noteFrame
  simp only [hf]
  refine wpAny_bind (wpAny_field x4 rfl (x := .ref T) rfl ?_)
  rw [if_pos (show (Value.ref T != Value.none) = true from by simp)]
  refine wpAny_bind (wpAny_field x7 x8 x9 ?_)
  by_cases hl : (fl == rawInt L) = true
  · rw [if_pos hl]
    have e1 : fl = rawInt L := beq_iff_eq.mp hl
    subst e1
    exact wpAny_pure (q s.heap x (Heap.UpToSlots.refl _))
  · rw [if_neg hl]
    refine wpAny_bind (fly_set (fl' := .none) x x4 fun h1 y up y4 => ?_)
    exact fly_entry (s := { s with heap := h1 }) hfr y.2.2.1 hf y4 y.1 y.2.1 fun h' z up2 => q h' z (up.trans up2)
theorem fly_leaveA {fl : Value} (hfr : A.frames = some (env :: outer)) (hf : env.frame = some L) (x : FlyX B (env :: outer) e cls t fl s.heap)
    (q : ∀ h', FlyX B (env :: outer) e cls t .none h' → s.heap.UpToSlots h' → Q () { s with heap := h' }) : wpAny M A (leaving env (.ref e)) Q E s := by
  unfold leaving
  exact wpAny_bind (fly_noteA hfr hf x fun h1 x up => fly_flight (fr := none) (s := { s with heap := h1 }) x fun h2 y up2 => q h2 y (up.trans up2))
/-- B without one object -/
theorem FlyX.hide {fl : Value} {h h' : Heap} {C : Addr} (x : FlyX B l e cls t fl h) (hB : ∃ o, B.get? C = some o) (sb : Heap.SameBut C h h') : FlyX (hideAll B [C]) l e cls t fl h' := by
  obtain ⟨x1, x2, x3, T, oT, ts, x4, x5, x6, x7, x8, x9⟩ := x
  obtain ⟨oC, hC⟩ := hB
  have none' : ∀ b, B.get? b = none → (hideAll B [C]).get? b = none := fun b n => by
    cases z : (hideAll B [C]).get? b with
    | none => rfl
    | some o => have := of_hideAll _ z; rw [n] at this; cases this
  have neC : ∀ b, B.get? b = none → b ≠ C := fun b n z => by rw [z, hC] at n; cases n
  have frames : ∀ l : List Env, h.FunFrames B l → h'.FunFrames (hideAll B [C]) l := by
    intro l
    induction l with
    | nil => intro _; trivial
    | cons env r ih =>
      rintro ⟨hk, ⟨L, o, hf, hn, ho, hd⟩, hr⟩
      exact ⟨hk, ⟨L, o, hf, none' L hn, (sb.2 L (neC L hn)).trans ho, hd⟩, ih hr⟩
  refine ⟨fun b o hb => ?_, none' e x2, frames l x3, T, oT, ts, (sb.2 e (neC e x2)).trans x4, none' T x5, x6, (sb.2 T (neC T x5)).trans x7, x8, x9⟩
  have nb : b ≠ C := fun z => by rw [z, hideAll_none [C] (by simp)] at hb; cases hb
  exact (sb.2 b nb).trans (x1 b o (of_hideAll _ hb))
end
/-- e flies in the frame of X, B stays; H' is the abstract heap behind it -/
structure FLB (X : Cx) (E : XK) (ea : Addr) (B : Heap) (H' : Hp) (cls : Value) (t : Addr) (fl : Value) (s : Shared) : Prop where
  fly : FlyX B X.stack ea cls t fl s.heap
  os : s.os = X.s₀.os
  bare : AllBare s.gens
  un : Un (frs X.outer) [] X.H₀ H' X.s₀.heap s.heap
  hok : HOk X.prog X.w H' s.heap
  cov : ∀ b o, s.heap.get? b = some o → b ∉ frs X.stack → ((∃ u, H' b = some u) ∨ ∃ o', X.s₀.heap.get? b = some o') → B.get? b = some o
  fr : ∀ b ∈ frs X.stack, H' b = none
  sub : ∀ b ∈ frs X.stack, b ∈ frs X.outer ∨ X.s₀.heap.get? b = none
  sub2 : ∀ b ∈ frs X.outer, b ∈ frs X.stack
  want : E cls none H'
section
variable {X : Cx} {E : XK} {ea C t : Addr} {B h' : Heap} {H' : Hp} {cls fl fl' : Value} {s : Shared}
theorem FLB.nin (x : FLB X E ea B H' cls t fl s) {b : Addr} {o : Obj} (e : X.s₀.heap.get? b = some o) (hb : b ∉ frs X.outer) : b ∉ frs X.stack := fun z => by
  rcases x.sub b z with y | y
  · exact hb y
  · rw [e] at y; cases y
theorem FLB.move (x : FLB X E ea B H' cls t fl s) (y : FlyX B X.stack ea cls t fl' h') (up : s.heap.UpToSlots h') : FLB X E ea B H' cls t fl' { s with heap := h' } := by
  have covT : ∀ b o, s.heap.get? b = some o → (∃ u, H' b = some u) → B.get? b = some o := fun b o e tr => x.cov b o e (fun z => by
    obtain ⟨u, hu⟩ := tr
    rw [x.fr b z] at hu
    cases hu) (.inl tr)
  have slots : ∀ b o, s.heap.get? b = some o → b ∈ frs X.stack → ∃ sl, h'.get? b = some { o with slots := sl } := fun b o e hb => by
    obtain ⟨_, o2, ho, hd⟩ := x.fly.2.2.1.mem hb
    rw [e] at ho
    cases ho
    exact up b o e hd
  refine ⟨y, x.os, x.bare, ⟨fun b o e n hb hx => ?_, fun b o e n hb hx => ?_, fun b o e n hx => x.un.free b o e n hx, fun b o e hx => ?_, x.un.tups, x.un.frzs, x.un.tbls⟩, fly_hok x.hok covT y.1, fun b o e hb alt => ?_, x.fr, x.sub, x.sub2, x.want⟩
  · have e1 := x.un.keep b o e n hb hx
    exact y.1 b o (x.cov b o e1 (x.nin e hb) (.inr ⟨o, e⟩))
  · obtain ⟨sl, e1⟩ := x.un.slot b o e n hb hx
    obtain ⟨sl2, e2⟩ := slots b _ e1 (x.sub2 b hb)
    exact ⟨sl2, e2⟩
  · obtain ⟨o1, e1⟩ := x.un.there b o e hx
    by_cases hb : b ∈ frs X.stack
    · obtain ⟨sl, e2⟩ := slots b o1 e1 hb
      exact ⟨_, e2⟩
    · exact ⟨o1, y.1 b o1 (x.cov b o1 e1 hb (.inr ⟨o, e⟩))⟩
  · have old : ∃ o', s.heap.get? b = some o' := by
      rcases alt with ⟨u, hu⟩ | ⟨o', e'⟩
      · exact (x.hok b u hu).ex
      · exact x.un.there b o' e' (by simp)
    obtain ⟨o', e'⟩ := old
    have e2 := x.cov b o' e' hb alt
    have e3 := y.1 b o' e2
    have e : h'.get? b = some o := e
    rw [e] at e3
    cases e3
    exact e2
theorem FLB.hide (x : FLB X E ea B H' cls t fl s) (hC : X.s₀.heap.get? C = none) (hH : H' C = none) (hB : ∃ o, B.get? C = some o) (sb : Heap.SameBut C s.heap h') : FLB X E ea (hideAll B [C]) H' cls t fl { s with heap := h' } := by
  have ne0 : ∀ b o, X.s₀.heap.get? b = some o → b ≠ C := fun b o e z => by rw [z, hC] at e; cases e
  have neH : ∀ b u, H' b = some u → b ≠ C := fun b u e z => by rw [z, hH] at e; cases e
  refine ⟨x.fly.hide hB sb, x.os, x.bare, ⟨fun b o e n hb hx => (sb.2 b (ne0 b o e)).trans (x.un.keep b o e n hb hx), fun b o e n hb hx => ?_, fun b o e n hx => x.un.free b o e n hx, fun b o e hx => ?_, x.un.tups, x.un.frzs, x.un.tbls⟩, fun a o e => ?_, fun b o e hb alt => ?_, x.fr, x.sub, x.sub2, x.want⟩
  · obtain ⟨sl, e1⟩ := x.un.slot b o e n hb hx
    exact ⟨sl, (sb.2 b (ne0 b o e)).trans e1⟩
  · obtain ⟨o1, e1⟩ := x.un.there b o e hx
    exact ⟨o1, (sb.2 b (ne0 b o e)).trans e1⟩
  · exact (x.hok a o e).stay (fun b u hb q => (sb.2 b (by
      rcases hb with z | z
      · exact neH b o (z ▸ e)
      · exact neH b _ z)).trans q) (fun _ q => q) fun _ _ q => q
  · have nb : b ≠ C := by
      rcases alt with ⟨u, hu⟩ | ⟨o', e'⟩
      · exact neH b u hu
      · exact ne0 b o' e'
    have e1 : s.heap.get? b = some o := (sb.2 b nb).symm.trans e
    exact hideAll_get [C] (x.cov b o e1 hb alt) (by simpa using nb)
/-- a callee's exception in this frame -/
theorem flb_call {pins : List (Addr × Obj)} {σ : St} {H1 : Hp} {s1 s' : Shared} {e : Value} (I : Inv X pins σ H1 s1) (hex : X.ex = []) (hsub : ∀ b ∈ frs X.outer, b ∈ frs X.stack) (h : CX1 X.prog X.w X.stack H1 s1 E e s') :
    ∃ ea t cls B H', e = .ref ea ∧ FLB X E ea B H' cls t .none s' ∧ (∀ b o, s1.heap.get? b = some o → H1 b = none → b ∉ frs X.stack → B.get? b = some o ∧ H' b = none) := by
  obtain ⟨ea, t, cls, B, H', rfl, os, bare, un, hok, fl, cov, hE⟩ := h
  have ib := I.base
  rw [hex] at ib
  have newL : ∀ b, b = X.env.locals → X.s₀.heap.get? b = none := fun b z => Heap.get?_none_of_le (by rw [z]; exact I.ok.above)
  have nst : ∀ b o, X.s₀.heap.get? b = some o → b ∉ X.fs → b ∉ frs X.stack := fun b o e hb z => by
    rcases List.mem_cons.mp (I.stkSub b z) with y | y
    · rw [newL b y] at e; cases e
    · exact hb y
  refine ⟨ea, t, cls, B, H', rfl, ⟨fl, os.trans I.os, bare, ⟨fun b o e n hb hx => ?_, fun b o e n hb hx => ?_, fun b o e n hx => ?_, fun b o e hx => ?_, fun b xs e => un.tups b xs (ib.tups b xs e), fun b o u e => un.frzs b o u (ib.frzs b o u e), fun b ps e => ?_⟩, hok, fun b o e hb alt => ?_, fun b hb => ?_, fun b hb => ?_, hsub, hE⟩, fun b o e n hb => ?_⟩
  · exact un.keep b o (ib.keep b o e n hb hx) (ib.free b o e n hx) (nst b o e hb) hx
  · obtain ⟨sl, e1⟩ := ib.slot b o e n hb hx
    obtain ⟨sl2, e2⟩ := un.any e1 (ib.free b o e n hx) hx
    exact ⟨sl2, e2⟩
  · obtain ⟨o1, e1⟩ := ib.there b o e hx
    exact un.free b o1 e1 (ib.free b o e n hx) hx
  · obtain ⟨o1, e1⟩ := ib.there b o e hx
    exact un.there b o1 e1 hx
  · obtain ⟨m1, e1⟩ := ib.tbls b ps e
    obtain ⟨m2, e2⟩ := un.tbls b _ e1
    exact ⟨m1 ++ m2, by rw [e2, Array.append_assoc]⟩
  · refine cov b o e hb ?_
    rcases alt with z | ⟨o', e'⟩
    · exact .inl z
    · exact .inr (ib.there b o' e' (by simp))
  · obtain ⟨_, o, ho, _⟩ := I.stack.mem hb
    exact un.free b o ho (I.stkFree b hb) (by simp)
  · rcases List.mem_cons.mp (I.stkSub b hb) with y | y
    · exact .inr (newL b y)
    · exact .inl y
  · exact ⟨cov b o (un.keep b o e n hb (by simp)) hb (.inr ⟨o, e⟩), un.free b o e n (by simp)⟩
end
section
variable {P : Program} {w : World} {K : PySem.W.Frag} {mg : Str → Option Value} {base : Heap} {N : List Str} {qual : Str} {scope : Scope} {f : Addr} {cd : Value} {A : Around} {outer : List Env} {s s' : Shared} {H H' : Hp} {E : XK} {B : Heap} {ea t : Addr} {cls fl : Value}
/-- it leaves the def -/
theorem flb_end (hfr : (A.deeper (envOfC qual scope s.heap.objs.size f cd)).frames = some (envOfC qual scope s.heap.objs.size f cd :: outer))
    (x : FLB (cxOf (CX1 P w) P w K mg base N qual scope f cd A outer s H E) E ea B H' cls t fl s') : (cxOf (CX1 P w) P w K mg base N qual scope f cd A outer s H E).xe (.ref ea) s' := by
  show wpAny _ _ (leaving _ _) _ _ s'
  refine fly_leaveA hfr rfl x.fly fun h2 y up => ?_
  have z := x.move y up
  refine ⟨ea, t, cls, B, H', rfl, z.os, z.bare, z.un, z.hok, FlyX.pop (s := { s' with heap := h2 }) y, fun b o e hb alt => z.cov b o e (fun q => ?_) alt, z.want⟩
  rcases z.sub b q with r | r
  · exact hb r
  · rcases alt with ⟨u, hu⟩ | ⟨o', e'⟩
    · rw [z.fr b q] at hu; cases hu
    · have e' : s.heap.get? b = some o' := e'
      have r : s.heap.get? b = none := r
      rw [e'] at r; cases r
end
theorem note_env {e : Value} {env env' : Env} (h : env.frame = env'.frame) : noteFrame e env = noteFrame e env' := by
  unfold noteFrame PySem.frameOf
  rw [h]
section
variable {prog : Program} {w : World} {A : Around} {R : Result → Shared → Prop} {s : Shared}
/-- the loop of the block, any target -/
theorem comp_loopX {elt target iter : Expr} {ifs : List Expr} {scope : Scope} {pos : Pos} {it acc : Value} {env : Env} (I : Nat → Shared → Prop)
    (turn : ∀ n s, I n s → wpAny (model prog w) A (pyNext it) (fun r s1 => match r with
      | none => R (.ok .next) s1
      | some v => wpAny (model prog w) A (letOwnedTupleGo target it v) (fun _ s2 => wpAny (model prog w) A (assign target env v) (fun _ s3 =>
          wpAny (model prog w) A (forIn ifs true fun c r => if r = true then do let ok ← isTrue c env (eval c env); pure (ForInStep.yield ok) else pure (ForInStep.yield r)) (fun ok s4 =>
            if ok = true then wpAny (model prog w) A (eval elt env) (fun x s5 =>
              wpAny (model prog w) A (call (.builtin "list.append") [acc, x]) (fun _ s6 => ∃ m, m < n ∧ I m s6) (notedBy (model prog w) A env fun x s' => R (.error x) s') s5) (notedBy (model prog w) A env fun x s' => R (.error x) s') s4
            else ∃ m, m < n ∧ I m s4) (notedBy (model prog w) A env fun x s' => R (.error x) s') s3) (notedBy (model prog w) A env fun x s' => R (.error x) s') s2) (notedBy (model prog w) A env fun x s' => R (.error x) s') s1) (notedBy (model prog w) A env fun x s' => R (.error x) s') s)
    (n : Nat) (h : I n s) :
    codeAny (model prog w) A (.compLoop (.ListComp elt [⟨target, iter, ifs, 0⟩] scope pos) 0 it acc env) R s := by
  refine codeAny_loop rfl I (fun n s hI => ?_) n h
  show wpAny _ A ((compTurn (.ListComp elt [⟨target, iter, ifs, 0⟩] scope pos) 0 it acc env).onRaise _) _ _ s
  refine wpAny_noted ?_
  rw [compTurn_list]
  refine wpAny_bind (wpAny_standAt (wpAny_bind (wpAny_mono (turn n s hI) (fun r s1 h1 => ?_) fun _ _ x => x)))
  cases r with
  | none => exact wpAny_pure h1
  | some v =>
    refine wpAny_bind (wpAny_mono h1 (fun _ s2 h2 => ?_) fun _ _ x => x)
    refine wpAny_bind (wpAny_mono h2 (fun _ s3 h3 => ?_) fun _ _ x => x)
    refine wpAny_bind (wpAny_mono h3 (fun ok s4 h4 => ?_) fun _ _ x => x)
    cases ok with
    | false => exact wpAny_pure ⟨rfl, h4⟩
    | true =>
      refine wpAny_bind (wpAny_bind (wpAny_mono h4 (fun x s5 h5 => ?_) fun _ _ x => x))
      exact wpAny_bind (wpAny_mono h5 (fun _ s6 h6 => wpAny_pure (wpAny_pure ⟨rfl, h6⟩)) fun _ _ x => x)
end
section
variable {X : Cx} {target iter elt : Expr} {ifs : List Expr} {scope : Scope} {pos : Pos} {N' : List Str} {cap : List (Option Nat)} {wi : TI} {g : TG} {tt : TT} {te : TE}
/-- the block, from the iterator on; an exception of the element passes -/
theorem comp_blockX {E1 : XK} {pins : List (Addr × Obj)} {σ : St} {s2 : Shared} {H2 : Hp} {Q : VK} {it : Addr} {fp : List Addr} {tn : Nat → Heap → Prop} {J : It} {W : Nat → Nat → List V → St → Hp → Prop} {m0 : Nat}
    {E : Value → Shared → Prop} {RR : Value → Addr → Result → Shared → Prop}
    (hc : X.calm = true) (hs : scopeOk scope X.env.scope = true) (hcap : capsOk X.N N' cap scope.names = true)
    (hB : ∀ (C : Addr) (ex : List Addr) (s : Shared) (H : Hp) (xe' : Value → Shared → Prop), Passes (CX1 X.prog X.w) ((compCx X N' scope (closL X.env.cells scope.names []) C ex s H).wish xe') E1 →
      PG ((compCx X N' scope (closL X.env.cells scope.names []) C ex s H).wish xe') target g ∧
      PF ((compCx X N' scope (closL X.env.cells scope.names []) C ex s H).wish xe') ifs tt ∧ PE ((compCx X N' scope (closL X.env.cells scope.names []) C ex s H).wish xe') elt te)
    (hex : X.ex = []) (hst : X.stack = X.env :: X.outer) (hfm : X.env.frame = some X.env.locals)
    (I2 : Inv X pins σ H2 s2) (T : Turn X.prog X.w X.K target J fp it tn) (st2 : tn 0 s2.heap) (f2 : ∀ b ∈ fp, FpOk X pins H2 b) (w0 : W 0 m0 [] (capV cap σ) H2) (turn : CompW J g tt te Q W)
    (hR : ∀ (D C : Addr) (s' : Shared), CompEnd X pins σ Q D C s' → RR (.ref D) C (.ok .next) s')
    (hRE : ∀ (D C ea t : Addr) (B : Heap) (H' : Hp) (cls fl : Value) (s' : Shared) (m : Str → Option Value), FLB X E1 ea B H' cls t fl s' → s'.heap.Ns C m → X.s₀.heap.get? C = none → H' C = none → (∃ o, B.get? C = some o) → RR (.ref D) C (.error (.ref ea)) s') :
    wpAny (model X.prog X.w) X.A (newList []) (fun acc s3 => wpAny (model X.prog X.w) X.A (newFunctionEnv scope X.env.globals (closL X.env.cells scope.names []) [] X.env.qual none .none (some X.env)) (fun cenv s4 =>
      codeAny (model X.prog X.w) X.A (.compStart (.ListComp elt [⟨target, iter, ifs, 0⟩] scope pos) 0 (.ref it) acc { cenv with scope := relabel scope X.env }) (RR acc cenv.locals) s4) E s3) E s2 := by
  have hs' := hs
  unfold scopeOk at hs'
  rw [Bool.and_eq_true] at hs'
  have hkind : scope.kind = .function := of_decide_eq_true hs'.1
  have nocell : ∀ y ∈ scope.names, y.2 ≠ .cell := fun y hy e => by
    have q := List.all_eq_true.mp hs'.2 y hy
    rw [e] at q
    cases q
  refine wpAny_newObj_type (wpAny_newFunctionEnv nocell (by intro y hy; simp at hy) (fun h4 hns hsb => ?_) hkind)
  dsimp only at hns hsb ⊢
  generalize hG : s2.heap.push { cls := .type "list", dict := none, data := .seq ([] : List Value).toArray } = G at hns hsb ⊢
  have hC : G.objs.size = s2.heap.objs.size + 1 := by rw [← hG, Heap.size_push]
  have up : ∀ b o, s2.heap.get? b = some o → G.get? b = some o := fun b o e => by rw [← hG]; exact Heap.get?_push_of_some _ e
  have I3 : Inv X pins σ H2 { s2 with heap := G } := I2.kept (t' := s2.toks) up
  have gD : G.get? s2.heap.objs.size = some { cls := .type "list", dict := none, data := .seq ([] : List Value).toArray } := by rw [← hG]; exact Heap.get?_push_size _ rfl
  generalize hDe : s2.heap.objs.size = D at *
  generalize hCe : G.objs.size = C at *
  have hDC : @LT.lt Nat _ D C := by
    have h1 : @Eq Nat C (D + 1) := hC
    omega
  have kp : ∀ b o, G.get? b = some o → h4.get? b = some o := fun b o e =>
    hsb.extBut b o (Nat.ne_of_lt (by have h1 : @LT.lt Nat _ b G.objs.size := Heap.lt_size e; rw [hCe] at h1; exact h1)) (Heap.get?_push_of_some _ e)
  have inn : ∀ b ∈ fp, @LT.lt Nat _ b D := fun b hb => by
    obtain ⟨o, ho, _⟩ := T.obj 0 _ st2 b hb
    have h1 : @LT.lt Nat _ b s2.heap.objs.size := Heap.lt_size ho
    rw [hDe] at h1
    exact h1
  have Y0 := comp_start (t4 := s2.toks + ([] : List (Str × Value)).length) (N' := N') (cap := cap) hs hcap I2 hDe.symm I3 hCe.symm hDC f2 inn hns kp
  have hsub : ∀ b ∈ frs X.outer, b ∈ frs X.stack := fun b hb => by
    rw [hst]
    unfold frs
    rw [List.filterMap_cons, hfm]
    exact List.mem_cons_of_mem _ hb
  have nf : C ∉ frs X.stack := fun hb => by
    obtain ⟨_, o, ho, _⟩ := I2.stack.mem hb
    have h1 : @LT.lt Nat _ C s2.heap.objs.size := Heap.lt_size ho
    rw [hDe] at h1
    omega
  have nC0 : X.s₀.heap.get? C = none := Heap.get?_none_of_le (by
    have h1 : @LE.le Nat _ X.s₀.heap.objs.size s2.heap.objs.size := I2.sz
    rw [hDe] at h1
    show @LE.le Nat _ X.s₀.heap.objs.size C
    omega)
  have old0 : ∀ b o, s2.heap.get? b = some o → b ≠ D := fun b o e => by
    have h1 : @LT.lt Nat _ b s2.heap.objs.size := Heap.lt_size e
    rw [hDe] at h1
    exact Nat.ne_of_lt h1
  have nin0 : ∀ b, b ∉ fp → b ≠ D → b ∉ D :: fp := fun b h1 h2 z => by
    rcases List.mem_cons.mp z with y | y
    · exact h2 y
    · exact h1 y
  -- the frame's own invariant holds amid the block
  have back0 : ∀ {pins' : List (Addr × Obj)} {σ' : St} {H1 : Hp} {s1 : Shared} {xe' : Value → Shared → Prop}, Inv ((compCx X N' scope (closL X.env.cells scope.names []) C (D :: fp) { s2 with heap := G } H2).wish xe') pins' σ' H1 s1 → Inv X pins σ H1 s1 := fun {pins' σ' H1 s1 xe'} J => by
    have bs : Un (frs X.stack) (D :: fp) H2 H1 G s1.heap := J.base
    refine I2.call' (s' := s1) (ch := fp) J.os ⟨fun b o e n hb hx => bs.keep b o (up b o e) n hb (nin0 b hx (old0 b o e)), fun b o e n hb hx => bs.slot b o (up b o e) n hb (nin0 b hx (old0 b o e)), fun b o e n hx => bs.free b o (up b o e) n (nin0 b hx (old0 b o e)),
      fun b o e hx => bs.there b o (up b o e) (nin0 b hx (old0 b o e)), bs.tups, bs.frzs, bs.tbls⟩ J.hok J.bare fun b hb => ?_
    obtain ⟨_, q1, _, q3, q4, q5⟩ := f2 b hb
    exact ⟨q3, q1, q4, q5⟩
  have hps : Passes (CX1 X.prog X.w) ((compCx X N' scope (closL X.env.cells scope.names []) C (D :: fp) { s2 with heap := G } H2).wish (notedBy (model X.prog X.w) X.A (compEnvC scope (closL X.env.cells scope.names []) C X.env) fun x s' => RR (.ref D) C (.error x) s')) E1 := by
    intro pins' σ' H1 s1 e s' J hx
    obtain ⟨ea, t, cls, B, H', rfl, x, kB⟩ := flb_call (X := X) (back0 J) hex hsub hx
    obtain ⟨m, ⟨oC, es, ep, hoC, rC⟩, _⟩ := J.loc
    have hoC : s1.heap.get? C = some oC := hoC
    obtain ⟨hBC, hHC⟩ := kB C oC hoC J.free nf
    show wpAny _ _ (noteFrame (.ref ea) _) _ _ s'
    rw [note_env (env := compEnvC scope (closL X.env.cells scope.names []) C X.env) (env' := X.env) rfl]
    have xf := x.fly
    rw [hst] at xf
    refine fly_noteA (hst ▸ I2.ok.frames) hfm xf fun h2 y up' => ?_
    rw [← hst] at y
    exact hRE D C ea t B H' cls _ { s' with heap := h2 } m (x.move y up') ⟨oC, es, ep, y.1 C oC hBC, rC⟩ nC0 hHC ⟨oC, hBC⟩
  obtain ⟨hg, hF, hE⟩ := hB C (D :: fp) { s2 with heap := G } H2 _ hps
  replace Y0 := Y0.wish (notedBy (model X.prog X.w) X.A (compEnvC scope (closL X.env.cells scope.names []) C X.env) fun x s' => RR (.ref D) C (.error x) s')
  have st4 : tn 0 h4 := T.keep 0 _ _ st2 fun b hb o e => kp b o (up b o e)
  have gD4 : h4.get? D = some { cls := .type "list", dict := none, data := .seq ([] : List Value).toArray } := kp _ _ gD
  -- the block's context, for short
  generalize hY : (compCx X N' scope (closL X.env.cells scope.names []) C (D :: fp) { s2 with heap := G } H2).wish (notedBy (model X.prog X.w) X.A (compEnvC scope (closL X.env.cells scope.names []) C X.env) fun x s' => RR (.ref D) C (.error x) s') = Y at Y0 hg hF hE
  have yP : Y.prog = X.prog := by rw [← hY]; rfl
  have yW : Y.w = X.w := by rw [← hY]; rfl
  have yK : Y.K = X.K := by rw [← hY]; rfl
  have yc : Y.calm = true := by rw [← hY]; exact hc
  have yA : Y.A = X.A := by rw [← hY]; rfl
  have yL : Y.env.locals = C := by rw [← hY]; rfl
  have yE : Y.env = compEnvC scope (closL X.env.cells scope.names []) C X.env := by rw [← hY]; rfl
  have yx : Y.xe = notedBy (model X.prog X.w) X.A (compEnvC scope (closL X.env.cells scope.names []) C X.env) fun x s' => RR (.ref D) C (.error x) s' := by rw [← hY]
  have yex : Y.ex = D :: fp := by rw [← hY]; rfl
  have ypn : Y.pn = [] := by rw [← hY]; rfl
  have yfs : Y.fs = frs X.stack := by rw [← hY]; rfl
  have ys0 : Y.s₀ = { s2 with heap := G } := by rw [← hY]; rfl
  have yH0 : Y.H₀ = H2 := by rw [← hY]; rfl
  have yok : Y.Ok := Y0.ok
  have exY : ∀ b ∈ D :: fp, b ≠ C ∧ b ∉ Y.fs ∧ ∀ x c, Y.env.cells.lookup x = some c → c ≠ b := fun b hb => by
    have q := yok.exf b (by rw [yex]; exact hb)
    rw [yL] at q
    exact ⟨q.1, yok.exfs b (by rw [yex]; exact hb), q.2⟩
  have noD : D ∉ fp := fun z => Nat.lt_irrefl _ (inn D z)
  have loop : ∀ s4 : Shared, s4 = { s2 with heap := h4, toks := s2.toks + ([] : List (Str × Value)).length } →
      codeAny (model X.prog X.w) X.A (.compLoop (.ListComp elt [⟨target, iter, ifs, 0⟩] scope pos) 0 (.ref it) (.ref D) (compEnvC scope (closL X.env.cells scope.names []) C X.env)) (RR (.ref D) C) s4 := by
    rintro s4 rfl
    refine comp_loopX (fun n s => ∃ i acc σ' H' its k, Inv Y [] σ' H' s ∧ tn i s.heap ∧ (∀ b ∈ fp, H' b = none) ∧ H' D = none ∧ s.heap.get? D = some { cls := .type "list", data := .seq (List.toArray its) k } ∧
      Vals acc its ∧ acc.length ≤ sizeLine ∧ W i n acc σ' H') ?_ m0 ⟨0, [], capV cap σ, H2, [], 0, Y0, st4, fun b hb => (f2 b hb).1, ?_, gD4, .nil, Nat.zero_le _, w0⟩
    · rintro n s ⟨i, acc, σ', H', its, k, J1, st, fr, hD0, gDs, rv, hz, wi'⟩
      -- the list that grows, pinned
      have JD : Inv Y [(D, { cls := .type "list", data := .seq (List.toArray its) k })] σ' H' s := J1.pins_of fun p hp => by
        have e : p = (D, { cls := .type "list", data := .seq (List.toArray its) k }) := by simpa using hp
        subst e
        refine ⟨gDs, hD0, ?_, (exY D (by simp)).2.1, fun v => by simp⟩
        rw [yL]
        exact (exY D (by simp)).1
      have fpk : ∀ {H5 : Hp}, (∀ b ∈ fp, H5 b = none) → ∀ b ∈ fp, FpOk Y [(D, { cls := .type "list", data := .seq (List.toArray its) k })] H5 b := fun {H5} hn b hb => by
        have q := exY b (List.mem_cons_of_mem _ hb)
        refine ⟨hn b hb, by rw [yL]; exact q.1, q.2.1, .inl (by rw [yex]; exact List.mem_cons_of_mem _ hb), q.2.2, fun p hp => ?_⟩
        rw [ypn] at hp
        have e : p = (D, { cls := .type "list", data := .seq (List.toArray its) k }) := by simpa using hp
        subst e
        intro z
        exact noD (by rw [show D = b from z]; exact hb)
      rcases turn i n acc σ' H' wi' with ⟨stop, qn⟩ | ⟨go, hlt, step⟩
      · have z := T.done Y yP yW yK yc i _ s σ' H' (notedBy (model X.prog X.w) X.A (compEnvC scope (closL X.env.cells scope.names []) C X.env) fun x s' => RR (.ref D) C (.error x) s') JD (fpk fr) st stop
        rw [yA] at z
        refine thn z fun r s1 ⟨hr, J5⟩ => ?_
        subst hr
        refine hR D C s1 ?_
        obtain ⟨m, hn, _⟩ := J5.loc
        rw [yL] at hn
        have hDp := J5.pin (D, { cls := .type "list", data := .seq (List.toArray its) k }) (by rw [ypn]; simp)
        have hCn : H' C = none := by
          have q := J5.free
          rw [yL] at q
          exact q
        have hok' : HOk X.prog X.w H' s1.heap := by
          have q := J5.hok
          rw [yP, yW] at q
          exact q
        have hok2 : HOk X.prog X.w (upd H' D (.lst acc)) s1.heap := hok'.adopt hD0 ⟨hz, its, k, rv, hDp.1⟩
        have bs := J5.base
        rw [yfs, yex, yH0, ys0] at bs
        have old : ∀ b o, s2.heap.get? b = some o → b ≠ D := fun b o e => by
          have h1 : @LT.lt Nat _ b s2.heap.objs.size := Heap.lt_size e
          rw [hDe] at h1
          exact Nat.ne_of_lt h1
        have nin : ∀ b, b ∉ fp → b ≠ D → b ∉ D :: fp := fun b h1 h2 z => by
          rcases List.mem_cons.mp z with y | y
          · exact h2 y
          · exact h1 y
        have hD2 : H2 D = none := I2.hok.fresh (Nat.le_of_eq hDe)
        have un : Un (frs X.stack) fp H2 (upd H' D (.lst acc)) s2.heap s1.heap := by
          refine ⟨fun b o e n hb hx => ?_, fun b o e n hb hx => ?_, fun b o e n hx => ?_, fun b o e hx => ?_, fun b xs e => ?_, fun b o u e => ?_, fun b ps e => ?_⟩
          · exact bs.keep b o (up b o e) n hb (nin b hx (old b o e))
          · exact bs.slot b o (up b o e) n hb (nin b hx (old b o e))
          · rw [upd_ne (old b o e)]
            exact bs.free b o (up b o e) n (nin b hx (old b o e))
          · exact bs.there b o (up b o e) (nin b hx (old b o e))
          · rw [upd_ne (ne_of_none e hD2)]
            exact bs.tups b xs e
          · rw [upd_ne (ne_of_none e hD2)]
            exact bs.frzs b o u e
          · rw [upd_ne (ne_of_none e hD2)]
            exact bs.tbls b ps e
        have os5 : s1.os = s2.os := by
          have q := J5.os
          rw [ys0] at q
          exact q
        refine ⟨m, upd H' D (.lst acc), hn, ?_, I2.fpOk (by rw [hDe]; exact Nat.le_of_lt hDC) ?_, qn D hD0⟩
        · refine I2.call' (s' := s1) (ch := fp) os5 un hok2 J5.bare fun b hb => ?_
          obtain ⟨_, q1, _, q3, q4, q5⟩ := f2 b hb
          exact ⟨q3, q1, q4, q5⟩
        · rw [upd_ne (Nat.ne_of_gt hDC)]
          exact hCn
      · have z := T.item Y yP yW yK yc i _ s σ' H' (notedBy (model X.prog X.w) X.A (compEnvC scope (closL X.env.cells scope.names []) C X.env) fun x s' => RR (.ref D) C (.error x) s') JD (fpk fr) st go
        rw [yA] at z
        refine thn z fun r s4 ⟨u, hr, h5⟩ => ?_
        subst hr
        refine thn h5 fun _ s5 ⟨x, H5, J5, r5, y5, st5, fr5⟩ => ?_
        have J5' := J5.pinned (fpk fr5) (T.obj _ _ st5)
        have g1 := hg _ s5 σ' H5 x u _ J5' r5 (step x H5 y5)
        rw [yP, yW, yA, yE, yx] at g1
        refine thn g1 fun _ s6 ⟨σ6, H6, J6, q6⟩ => ?_
        have g2 := hF _ s6 σ6 H6 _ J6 q6
        rw [yP, yW, yA, yE, yx] at g2
        refine thn g2 fun ok s7 ⟨H7, J7, q7⟩ => ?_
        have back : ∀ {σ8 : St} {H8 : Hp} {s8 : Shared}, Inv Y ([(D, { cls := .type "list", data := .seq (List.toArray its) k })] ++ pinsAt fp s5.heap) σ8 H8 s8 →
            Inv Y [] σ8 H8 s8 ∧ tn (i + 1) s8.heap ∧ (∀ b ∈ fp, H8 b = none) ∧ H8 D = none ∧ s8.heap.get? D = some { cls := .type "list", data := .seq (List.toArray its) k } := fun {σ8 H8 s8} J8 => by
          have pin1 : ∀ b ∈ fp, ∀ o, s5.heap.get? b = some o → s8.heap.get? b = some o ∧ H8 b = none := fun b hb o e => by
            have q := J8.pin (b, o) (List.mem_append_right _ (List.mem_append_right _ (mem_pinsAt hb e)))
            exact ⟨q.1, q.2.1⟩
          have pinD := J8.pin (D, { cls := .type "list", data := .seq (List.toArray its) k }) (List.mem_append_right _ (List.mem_append_left _ (by simp)))
          refine ⟨J8.pins_of (fun p hp => nomatch hp), T.keep _ _ _ st5 fun b hb o e => (pin1 b hb o e).1, fun b hb => ?_, pinD.2.1, pinD.1⟩
          obtain ⟨o, e, _⟩ := T.obj _ _ st5 b hb
          exact (pin1 b hb o e).2
        cases ok with
        | false =>
          rw [if_neg (by decide)]
          rw [if_neg (by decide)] at q7
          obtain ⟨m', hm, w7⟩ := q7
          obtain ⟨b1, b2, b3, b4, b5⟩ := back J7
          exact ⟨m', hm, i + 1, acc, σ6, H7, its, k, b1, b2, b3, b4, b5, rv, hz, w7⟩
        | true =>
          rw [if_pos rfl]
          rw [if_pos rfl] at q7
          have g3 := hE _ s7 σ6 H7 _ J7 q7
          rw [yP, yW, yA, yE, yx] at g3
          refine thn g3 fun v s8 ⟨y, H8, J8, ry, m', hm, w8⟩ => ?_
          obtain ⟨b1, b2, b3, b4, b5⟩ := back J8
          have hlen : its.toArray.size ≤ sizeLine := by
            rw [List.size_toArray, ← rv.length]
            exact hz
          refine call_meets F.slot_list_append ⟨_, b5, rfl⟩ F.entry_list_append (F.args_list_append_2 _ _) (PySem.list_append D its.toArray k v hlen) ⟨b5, ?_⟩
          have q9 := PySem.IsL.update b5 (·.push v)
          have e9 : its.toArray.push v = (its ++ [v]).toArray := by simp
          refine ⟨m', hm, i + 1, acc ++ [y], σ6, H8, its ++ [v], (if (its.toArray.push v).size == its.toArray.size then k else k + 1), b1.turned (it := D) (fun b o hb e => ?_) b4 ?_ (.inl ?_) (exY D (by simp)).2.2 (fun p hp => ?_), T.keep _ _ _ b2 fun b hb o e => ?_, b3, b4, ?_, rv.append (.cons ry .nil), ?_, w8⟩
          · exact (Heap.get?_update_other _ _ (Ne.symm hb)).trans e
          · rw [yL]
            exact Nat.ne_of_lt hDC
          · rw [yex]
            simp
          · rw [ypn] at hp
            exact absurd hp (by simp)
          · exact (Heap.get?_update_other _ _ (fun z => noD (by rw [z]; exact hb))).trans e
          · rw [← e9]
            exact q9
          · rw [List.length_append, List.length_singleton]
            omega
    · exact I2.hok.fresh (Nat.le_of_eq hDe)
  exact codeAny_compStart_list (loop _ rfl) (T.self _ 0 _ _ _ st4 (loop _ rfl))

/-- [elt for target in iter if ..] -/
theorem pe_compX {E1 : XK} (hfly : X.A.frames = some X.stack → ∀ (ea t : Addr) (B : Heap) (H' : Hp) (cls fl : Value) (s' : Shared), FLB X E1 ea B H' cls t fl s' → X.xe (.ref ea) s') (hc : X.calm = true) (hi : PI X target iter wi) (hs : scopeOk scope X.env.scope = true) (hcap : capsOk X.N N' cap scope.names = true)
    (hB : ∀ (C : Addr) (ex : List Addr) (s : Shared) (H : Hp) (xe' : Value → Shared → Prop), Passes (CX1 X.prog X.w) ((compCx X N' scope (closL X.env.cells scope.names []) C ex s H).wish xe') E1 →
      PG ((compCx X N' scope (closL X.env.cells scope.names []) C ex s H).wish xe') target g ∧
      PF ((compCx X N' scope (closL X.env.cells scope.names []) C ex s H).wish xe') ifs tt ∧ PE ((compCx X N' scope (closL X.env.cells scope.names []) C ex s H).wish xe') elt te)
    (hex : X.ex = [] := by rfl) (hst : X.stack = X.env :: X.outer := by rfl) (hfm : X.env.frame = some X.env.locals := by rfl)
    (hf : ∀ x, foldedSetIterable iter X.env x = pure x := by intro _; rfl) : PE X (.ListComp elt [⟨target, iter, ifs, 0⟩] scope pos) (tComp wi cap g tt te) := by
  intro pins s σ H Q I h
  have hs' := hs
  unfold scopeOk at hs'
  rw [Bool.and_eq_true] at hs'
  have hn := List.all_eq_true.mp hs'.2
  rw [eval_ListComp]
  refine wpAny_comprehension_free (use := none) (cl := closL X.env.cells scope.names []) (g := ⟨target, iter, ifs, 0⟩) (gs := []) rfl hf (closureFor_run fun y hy e => ?_) (of_decide_eq_true hs'.1) (fun y hy e => ?_) ?_
  · have q := hn y hy
    rw [e] at q
    exact I.ok.has y.1 (.inl (of_decide_eq_true q))
  · have q := hn y hy
    rw [e] at q
    exact of_decide_eq_true q
  refine thn (hi pins s σ H _ I h) fun v s1 h1 => thn h1 fun itv s2 h2 => ?_
  obtain ⟨it, fp, tn, J, H2, e, I2, T, st2, f2, W, ⟨m0, w0⟩, turn⟩ := h2
  subst e
  refine comp_blockX (E1 := E1) (Q := Q) (RR := fun acc C => compPost (model X.prog X.w) X.A X.xe none (EP X pins σ Q) acc C) hc hs hcap hB hex hst hfm I2 T st2 f2 w0 turn (fun D C s' ⟨m, H', hn, I', f', q⟩ => ?_) fun D C ea t B H' cls fl s' m x hn h0 hH hBC => ?_
  · exact ⟨m, hn, fun h' hb => ⟨.ref D, H', CompEnd.go I' f' hb, rfl, q⟩⟩
  · refine ⟨m, hn, fun h' sb cenv _ => ?_⟩
    have y := x.hide h0 hH hBC sb
    obtain ⟨T1, oT, ts, x4, _⟩ := y.fly.2.2.2
    unfold PySem.passOn
    refine wpAny_bind (wpAny_field x4 rfl (x := .ref T1) rfl ?_)
    rw [if_neg (show ¬ ((Value.ref T1 == Value.none) = true) from by simp)]
    refine wpAny_bind (fly_flight (s := { s' with heap := h' }) y.fly fun h2 z up => wpAny_throw ?_)
    exact hfly I.ok.frames ea t _ H' cls _ _ (y.move z up)
end
/-! ### defs that may raise -/
/-- a def of the text stands under its name and keeps its promise, exceptions too -/
def KnownX (P : Program) (w : World) (K : PySem.W.Frag) (mg : Str → Option Value) (base : Heap) (k : Nat) (x : Str) (ps : List Str) (sp : Sp) : Prop :=
  ∃ f fd, FnOk P w K mg base (CX1 P w) k f fd ps sp ∧ PySem.W.keepIn K (.ref f) = true ∧ Binds K fd ps [] ∧ mg x = some (.ref f) ∧ FdAt K f fd
section
variable {P : Program} {w : World} {K : PySem.W.Frag} {mg : Str → Option Value} {base : Heap} {k : Nat} {x q : Str} {st : Stmt} {N ps : List Str} {sp : Sp}
theorem KnownX.of (F : TopFn K mg x st ps) (S : FnScope N ps (defScope st)) (len : ∀ vs H Q E, sp vs H Q E → vs.length = ps.length)
    (body : ∀ (f : Addr) (cdv : Value) (A : Around) (outer : List Env) (s : Shared) (H : Hp) (vs : List V) (Q : VK) (E : XK), Room k (A.deeper (envOfC x (defScope st) s.heap.objs.size f cdv)) → sp vs H Q E →
      ∃ t, PSs (cxOf (CX1 P w) P w K mg base N x (defScope st) f cdv A outer s H E) (defBody st) t ∧ t { nx := fun _ H' => Q .non H', rt := Q } (start N vs) H) : KnownX P w K mg base (k + 1) x ps sp := by
  obtain ⟨f, fd, F, b, m⟩ := F
  obtain ⟨oc, od, kV, doc, pm, an, cdv, ct, osl, rfl, lk, hcd⟩ := F.ex
  exact ⟨f, _, fn_of lk hcd S len (body f cdv), F.kp, b, m, F.fdAt⟩
/-- where it raises nothing -/
theorem KnownX.calm (h : KnownX P w K mg base k x ps sp) : Known P w K mg base k x ps (fun vs H Q _ => sp vs H Q E0) := by
  obtain ⟨f, fd, G, r⟩ := h
  refine ⟨f, fd, ⟨fun vs H Q E q => G.len vs H Q E0 q, fun A outer s H args us vs Q E hr e0 hb hv hs => ?_⟩, r⟩
  refine codeAny_mono (G.run A outer s H args us vs Q E0 hr e0 hb hv hs) fun r s' h => ?_
  cases r with
  | error e =>
    obtain ⟨_, _, _, _, _, _, _, _, _, _, _, _, hE⟩ := (show CX1 P w outer H s E0 e s' from h)
    exact hE.elim
  | ok fl => cases fl <;> exact h
end
section
variable {X : Cx} {k : Nat} {x : Str} {ps : List Str} {sp : Sp} {E : XK} {e : Expr} {es : List Expr} {t : TA} {p pos : Pos}
theorem pe_fnX (h : KnownX X.prog X.w X.K X.mg X.base k x ps sp) (hp : Passes (CX1 X.prog X.w) X E) (hr : Room k X.A) (hg : Gl X x) (ha : PA X (e :: es) t) (hdb : (x == ("__debug__" : Str)) = false := by decide)
    (he : starEach (e :: es) X.env = (false, eval e X.env) :: starEach es X.env := by rfl) (hpl : (backTo pos (starEach es X.env)).any (·.1) = false := by rfl) : PE X (.Call (.Name x p) (e :: es) [] pos) (tCall sp [] E t) := by
  obtain ⟨f, fd, G, kp, b, m, _⟩ := h
  exact pe_call G hr hg m kp b .nil hp ha hdb he hpl
end
end L2

/-! Own rules over the hand layer, 12: an exception caught, its class asked -/
namespace L2
open PySem PySem.Spec PySem.W PyProof.Rows
/-- an exception of an own class, tracked -/
def exO (ea C : Addr) : HO := .ext fun h => ∃ t tb, h.get? ea = some (excObj (.ref C) t tb)
/-- what isinstance wants of an own class of exceptions -/
structure ExcCls (K : Frag) (C : Addr) : Prop where
  hd : hasDictIn K C = true
  ga : findIn K (.ref C) "__getattribute__" = some (some (.builtin "BaseException.__getattribute__"))
  gh : findIn K (.ref C) "__getattr__" = some none
  ca : findIn K (.ref C) "__class__" = some (some (.builtin "object.__class__"))
  sp : specialIn K (.builtin "object.__class__") "__get__" = some (some (.builtin "getset_descriptor.__get__"))
  tk : takesIn K (.builtin "object.__class__") = some true
  mro : mroIn K C (.type "object") = some true
  sub : subIn K (.ref C) (.type "BaseException") = some true
theorem exm_sub {K : Frag} {C D : Addr} (hb : subIn K (.ref D) (.type "BaseException") = some true) (hc : isClsIn K D = true) (ht : typeIn K (.ref D) = some (.type "type")) (hs : subIn K (.ref C) (.ref D) = some true) : exmOne K (.ref C) (.ref D) = some true := by
  unfold exmOne
  rw [if_pos (by rw [hb]; rfl)]
  unfold kitCls
  have e : (clsIn K D).isSome = true := hc
  simp only [e, ht, hs]
  simp
theorem kit_ty {K : Frag} {C : Addr} {T : String} {v : Bool} (hm : kitMeta T = true) (hs : subIn K (.ref C) (.type T) = some v) : kitOne K (.ref C) (.type T) = some v := by
  unfold kitOne
  rw [if_neg (fun z => by cases beq_iff_eq.mp z)]
  unfold kitCls
  simp only [hm, if_true, hs]
section
variable {prog : Program} {w : World} {A : Around} {E : Value → Shared → Prop} {s : Shared} {K : Frag} {x C : Addr} {ox : Obj}
theorem exc_find (F : ExcCls K C) : findObj K C none "__class__" = some (.bind (.builtin "getset_descriptor.__get__") (.builtin "object.__class__")) := by
  obtain ⟨cd, hc, _⟩ := any_some F.hd
  unfold findObj
  rw [hc, Option.bind_some, F.ca, Option.bind_some]
  simp [F.sp, F.tk]
theorem exc_entry {tk : Tok} {Q : Fin → Shared → Prop} (F : ExcCls K C) (X : K.In s.heap) (I : InstAt s.heap x ox C none) (hq : Q (.done (.ret (.ref C))) s) :
    wpAny (model prog w) A (Builtin.«object.__getattribute__» ⟨[.ref x, .str "__class__" tk], []⟩) Q E s := by
  obtain ⟨h, g, d, t, os⟩ := s
  have L0 := I.type (M := model prog w)
  have L1 := looks_find (M := model prog w) X I (exc_find F)
  refine wpAny_bind (wpAny_pure ?_)
  refine wpAny_bind (wpAny_pure ?_)
  refine wpAny_bind (L0.at (wpAny_bind (L1.at ?_)))
  show wpAny _ _ (holding [Value.builtin "object.__class__"] (call (.builtin "getset_descriptor.__get__") [.builtin "object.__class__", .ref x, .ref C]) >>= ret) _ _ _
  refine wpAny_bind (wpAny_holding (wpAny_call (class_get (s := ⟨h, g, d, t, os⟩) (ox := ox) (od := none) X I F.mro ?_)))
  exact wpAny_pure hq
theorem exc_check {nameV : Value} {Q : Unit → Shared → Prop} (F' : ExcCls K C) (X : K.In s.heap) (I : InstAt s.heap x ox C none) (hq : Q () s) :
    wpAny (model prog w) A (checkBuiltinCall "BaseException.__getattribute__" ⟨[.ref x, nameV], []⟩) Q E s := by
  obtain ⟨h, g, d, t, os⟩ := s
  have hk : builtinKind "BaseException.__getattribute__" = some .slot := by decide +kernel
  have hsplit : splitId "BaseException.__getattribute__" = some ("BaseException", "__getattribute__") := by decide +kernel
  have ha := F.args_bexc_ga (.ref x) nameV
  have L0 := I.type (M := model prog w)
  have L1 := looks_subIn (M := model prog w) X F'.sub
  simp only [checkBuiltinCall, hk, hsplit]
  refine wpAny_bind ?_
  unfold isInstance
  repeat (first | exact hq | lk | wp_step)
theorem exc_call {tk : Tok} {R : Result → Shared → Prop} (F' : ExcCls K C) (X : K.In s.heap) (I : InstAt s.heap x ox C none) (hq : R (.ok (.ret (.ref C))) s) :
    codeAny (model prog w) A (.call (.builtin "BaseException.__getattribute__") ⟨[.ref x, .str "__class__" tk], []⟩) R s :=
  codeAny_call_builtin F.excAttr_ValueError.ga.plain F.entry_bexc_ga (exc_check F' X I (exc_entry F' X I hq))
theorem exc_class {Q : Option Value → Shared → Prop} (F' : ExcCls K C) (X : K.In s.heap) (I : InstAt s.heap x ox C none) (hq : Q (some (.ref C)) { s with toks := s.toks + 1 }) : wpAny (model prog w) A (getAttr? (.ref x) "__class__") Q E s := by
  obtain ⟨h, g, d, t, os⟩ := s
  have L0 := I.type (M := model prog w)
  have L1 := looks_findIn (M := model prog w) X F'.ga
  have L2 := looks_findIn (M := model prog w) X F'.gh
  have f3 := F.excAttr_ValueError.ga.bind (.ref x)
  have hx2 : (Value.builtin "BaseException.__getattribute__" == Value.builtin "object.__getattribute__") = false := by decide +kernel
  have hx1 : (onTheHeap (Value.ref C) && Value.builtin "BaseException.__getattribute__" == Value.builtin "object.__getattribute__") = false := by rw [hx2]; rfl
  unfold getAttr? getAttrBy? getAttrBy
  refine wpAny_bind (wpAny_mkText (wpAny_bind (wpAny_attempt (wpAny_holding (wpAny_bind (L0.at (wpAny_bind (L1.at ?_))))))))
  dsimp only
  rw [if_neg (by rw [hx1]; decide)]
  unfold getAttrByItsOwn hookBefore
  refine wpAny_bind ?_
  rw [if_pos (by rfl)]
  refine L2.at ?_
  refine wpAny_bind (wpAny_attempt (wpAny_holding ?_))
  unfold callGetattribute
  rw [if_neg (by decide)]
  unfold boundAndCalled
  rw [f3]
  refine wpAny_bind (wpAny_pure (wpAny_call (exc_call (s := ⟨h, g, d, t + 1, os⟩) F' X I ?_)))
  exact handed_on rfl (wpAny_pure hq)
theorem kitx_exc (F' : ExcCls K C) : KitX K (.ref x) (.ref C) (fun h => ∃ t tb, h.get? x = some (excObj (.ref C) t tb)) where
  ty := fun _ _ _ p => by
    obtain ⟨t, tb, e⟩ := p
    exact (Looks.ld e).andThen .now
  it := fun _ _ X _ => by
    obtain ⟨cdD, hcD, _⟩ := any_some F'.hd
    unfold clsIn at hcD
    split at hcD
    · rename_i c' d' cd' sl' ho
      intro A' Q' E' s' k q
      unfold isType loadHead
      exact wpAny_bind (wpAny_loadPart (k _ _ (X _ _ ho)) (wpAny_pure q))
    · cases hcD
  ne := fun h tp dd its n sl X htp => by
    obtain ⟨cdD, hcD, _⟩ := any_some F'.hd
    refine Bool.eq_false_iff.mpr fun q => ?_
    have e : C = tp := Value.ref.inj (beq_iff_eq.mp q)
    subst e
    unfold clsIn at hcD
    split at hcD
    · rename_i c' d' cd' sl' ho
      have z := (X _ _ ho).symm.trans htp
      cases z
    · cases hcD
  ca := fun X p k => by
    obtain ⟨t, tb, e⟩ := p
    exact exc_class F' X ⟨e, rfl, rfl, trivial⟩ k
end
section
variable {X : Cx}
theorem call_isinstX : CallR X (.builtin "isinstance") (fun xs H Q => ∃ a c C b, xs = [.ref a, c] ∧ okC c ∧ H a = some (exO a C) ∧ ExcCls X.K C ∧ kitOne X.K (.ref C) (clsV c) = some b ∧ Q (.bl b) H) := by
  intro pins s σ H xs us Q I r h
  obtain ⟨a, c, C, b, rfl, hc, ha, F', e, q⟩ := h
  obtain ⟨u, v, rfl, ru, rv⟩ := vals2 r
  have hv : v = clsV c := by
    cases c <;> first | exact hc.elim | exact rv
  subst hv
  cases ru
  obtain ⟨p, _⟩ := I.hok a _ ha
  exact kia_one (kitx_exc F') I.kIn p e (fun z => nomatch z) fun tk => ⟨.bl b, H, I.tok tk, rfl, q⟩
end
/-! ### any, within a handler -/
section
variable {prog : Program} {w : World} {A : Around} {E : Value → Shared → Prop} {s : Shared}
theorem entry_unchain : entryFor table "proto.unchain" = some Builtin.«proto.unchain» := entryFor_of_tree (by kernel_rfl)
theorem raiseNew_some {α : Type} {a ea t : Addr} {cls tb : Value} {oa : Obj} {vs : Array Value} {Q : α → Shared → Prop} (hh : A.handled = some (.ref ea)) (hne : ea ≠ a) (he : s.heap.get? ea = some (excObj cls t tb)) (ha : s.heap.get? a = some oa)
    (hda : oa.data = .fields vs) (h2 : 2 < vs.size) (h : E (.ref a) { s with heap := s.heap.update a (Obj.mapFields (·.setIfInBounds 2 (.ref ea))) }) : wpAny (model prog w) A (raiseNew (.ref a) : Sem α) Q E s := by
  unfold raiseNew
  refine wpAny_bind (wpAny_handled ?_)
  rw [hh]
  dsimp only
  rw [if_pos (show (Value.ref ea != Value.ref a) = true from by simpa using hne)]
  refine wpAny_bind (wpAny_holding (wpAny_runValue (codeAny_builtin entry_unchain ?_)))
  unfold Builtin.«proto.unchain»
  dsimp only
  refine wpAny_bind (wpAny_field he rfl (x := .none) rfl ?_)
  rw [if_pos (by rfl)]
  refine wpAny_pure ?_
  unfold updateField
  refine wpAny_bind (wpAny_bind (wpAny_load ha ?_))
  rw [hda]
  dsimp only
  rw [if_pos h2]
  exact wpAny_update ha (wpAny_throw h)
theorem next_list_endH {it l ea : Addr} {i : Nat} {items : Array Value} {cls : Value} {t : Addr} {tb : Value} {Q : Option Value → Shared → Prop} (hh : A.handled = some (.ref ea)) (he : s.heap.get? ea = some (excObj cls t tb)) (hne : ea ≠ it)
    (hit : s.heap.IsListIter it l i) (hl : s.heap.IsList l items) (hx : items[i]? = none)
    (hQ : ∀ h', Heap.ExtBut it s.heap h' → Q none { s with heap := h' }) : wpAny (model prog w) A (pyNext (.ref it)) Q E s := by
  obtain ⟨o, ho, hc, hd⟩ := id hit
  obtain ⟨ol, hol, _, nl, hdl⟩ := hl
  unfold pyNext
  refine wpAny_bind (wpAny_attempt (wpAny_callSpecial?_slot (name := Str.ofString "__next__") hit.typeIs slot_listiter_next
    (wpAny_call_entry slot_listiter_next hit.typeIs entry_listiter_next ?_ (args_listiter_next _))))
  show wpAny _ _ (field (.ref it) 0 >>= _) _ _ s
  refine wpAny_bind (wpAny_field ho hd (x := .ref l) rfl ?_)
  show wpAny _ _ (if (Value.ref l == Value.none) = true then _ else _) _ _ s
  rw [if_neg (show ¬ ((Value.ref l == Value.none) = true) from Bool.false_ne_true)]
  show wpAny _ _ (field (.ref it) 1 >>= _) _ _ s
  refine wpAny_bind (wpAny_field ho hd (x := .int i 0) rfl ?_)
  show wpAny _ _ (seqItems? (.ref l) >>= _) _ _ s
  refine wpAny_bind (wpAny_seqItems hol hdl ?_)
  simp only [Int.toNat_natCast, hx]
  refine wpAny_bind (wpAny_rule (wpAny_bind (wpAny_setField ho hd (by simp) ?_)))
  show wpAny _ _ (newExc (.type "StopIteration") [] >>= _) _ _ _
  refine wpAny_bind ?_
  simp only [newExc, newTuple]
  refine wpAny_bind (wpAny_newObj_type ?_ (by size_fits))
  refine wpAny_bind (m := firstArgMember _ _) (wpAny_of_eq (a := Value.none) (by first | rfl | (simp only [firstArgMember]; rfl)) ?_)
  refine wpAny_newObj_type ?_ (by size_fits)
  dsimp only
  generalize hO : ({ cls := .type "tuple", dict := none, data := .seq ([] : List Value).toArray } : Obj) = O1
  have k1 : ∀ b ob, b ≠ it → s.heap.get? b = some ob → ((s.heap.update it (Obj.mapFields (·.setIfInBounds 0 .none))).push O1).get? b = some ob := fun b ob hb e => Heap.get?_push_of_some _ ((Heap.get?_update_other _ _ (Ne.symm hb)).trans e)
  refine raiseNew_some (A := A.in1) hh ?_ (Heap.get?_push_of_some _ (k1 ea _ hne he)) (Heap.get?_push_size _ rfl) rfl (by simp; omega) ?_
  · exact Nat.ne_of_lt (Heap.lt_size (k1 ea _ hne he))
  refine wpAny_bind (wpAny_isInstance (T := "StopIteration") (b := true) ⟨_, Heap.get?_update_self _ (Heap.get?_push_size _ rfl) rfl, rfl⟩ isSubtype_stop ?_)
  refine wpAny_pure (hQ _ fun b ob hb e => ?_)
  have e1 := k1 b ob hb e
  rw [Heap.get?_update_other _ _ (Ne.symm (Nat.ne_of_lt (Heap.lt_size e1)))]
  exact Heap.get?_push_of_some _ e1
theorem Walks.listH (I ax ea C t : Addr) (tb : Value) (hh : A.handled = some (.ref ea)) (hne : ax ≠ I) (hea : ea ≠ I) (items : Array Value) :
    Walks prog w A I [I, ax, ea] [I] items.size (fun i v => items[i]? = some v) (fun i h => (h.IsListIter I ax i ∧ h.IsList ax items) ∧ h.get? ea = some (excObj (.ref C) t tb)) where
  sub := fun b hb => by simp at hb; simp [hb]
  frame := fun _ _ _ st hk => ⟨⟨st.1.1.at fun o e => hk I (by simp) o e, st.1.2.at fun o e => hk ax (by simp) o e⟩, hk ea (by simp) _ st.2⟩
  item := fun i s Q E hi st hQ => by
    refine wpAny_pyNext_list_item st.1.1 st.1.2 (x := items[i]) (by simp [hi]) fun h' hit' hs' => ?_
    exact hQ _ h' s.toks (by simp [hi]) ⟨⟨hit', st.1.2.extBut hs'.extBut hne⟩, (hs'.2 ea hea).trans st.2⟩ fun b o hb e => hs'.extBut b o (fun h => hb (by simp [h])) e
  done := fun s Q E st hQ => next_list_endH hh st.2 hea st.1.1 st.1.2 (by simp) fun h' he' => hQ h' s.toks fun b o hb e => he' b o (fun h => hb (by simp [h])) e
  self := fun _ _ _ _ st hQ => wpAny_pyIter_listiter st.1.1 hQ
end
section
variable {X : Cx}
theorem call_anyH {ea : Addr} (hh : X.A.handled = some (.ref ea)) : CallR X (.builtin "any") (fun xs H Q => ∃ (p C : Addr) (bs : List Bool), xs = [.ref p] ∧ SqL X.K H p (bs.map V.bl) ∧ H ea = some (exO ea C) ∧ Q (.bl (bs.any id)) H) := by
  intro pins s σ H xs us Q I r h
  obtain ⟨p, C, bs, rfl, hq, he, q⟩ := h
  obtain ⟨u, rfl, rx⟩ := vals1 r
  cases rx
  obtain ⟨its, rv, pl, hz⟩ := I.list hq
  obtain ⟨⟨t, tb, hoe⟩, _⟩ := I.hok ea _ he
  have hl : s.heap.IsList p its.toArray := pl.isList
  have hlt : p < s.heap.objs.size := by obtain ⟨_, e, _⟩ := hl; exact Heap.lt_size e
  refine call_any_walk (wpAny_pyIter_list hl ?_)
  refine ⟨_, _, _, _, _, _, fun i => bs.getD i false, rfl, Walks.listH (A := X.A.in1) s.heap.objs.size p ea C t tb hh (Nat.ne_of_lt hlt) (Nat.ne_of_lt (Heap.lt_size hoe)) its.toArray, ⟨⟨⟨_, Heap.get?_push_size _ rfl, rfl, rfl⟩, hl.push _⟩, Heap.get?_push_of_some _ hoe⟩, truth_bools rv, fun h' tk hk => ?_⟩
  have e : (List.range its.toArray.size).any (fun i => bs.getD i false) = bs.any id := by
    have hl' := rv.length
    rw [List.length_map] at hl'
    rw [List.size_toArray, ← hl']
    exact range_any bs
  rw [e]
  exact ⟨.bl (bs.any id), H, I.kept (t' := tk) (old_iter hk), rfl, q⟩
end
/-! ### try: f(..) except C as n: .. -/
/-- the context of a handler's suite -/
def hcx (X : Cx) (ea : Addr) : Cx := { X with A := X.A.mark (some (.ref ea)), calm := false, xe := fun _ _ => False }
section
variable {X : Cx} {pins : List (Addr × Obj)} {σ : St} {H : Hp} {s : Shared}
theorem Inv.inH (I : Inv X pins σ H s) (ea : Addr) : Inv (hcx X ea) pins σ H s :=
  ⟨⟨I.ok.mod, I.ok.kind, I.ok.glob, I.ok.blt, I.ok.above, I.ok.inj, I.ok.has, I.ok.cab, (fun h => nomatch (show false = true from h)), I.ok.frames, I.ok.stk, I.ok.exf, I.ok.bs, I.ok.bsz, I.ok.noex, I.ok.exfs, I.ok.funs, I.ok.frf⟩, I.os, I.bare, I.base, I.loc, I.cell, I.free, I.freeC, I.pin, I.hok, I.len⟩
theorem Inv.outH {σ' : St} {H' : Hp} {s' : Shared} {ea : Addr} (I0 : Inv X pins σ H s) (I : Inv (hcx X ea) pins σ' H' s') : Inv X pins σ' H' s' :=
  ⟨I0.ok, I.os, I.bare, I.base, I.loc, I.cell, I.free, I.freeC, I.pin, I.hok, I.len⟩
/-- the names are forgotten -/
theorem Inv.namesGone {h' : Heap} {m' : Str → Option Value} {t' : Nat} (I : Inv X pins σ H s) (hn' : h'.Ns X.env.locals m') (hs : Heap.SameBut X.env.locals s.heap h') : Inv X pins (List.replicate X.N.length none) H { s with heap := h', toks := t' } := by
  have neL : ∀ b o, X.s₀.heap.get? b = some o → b ≠ X.env.locals := fun b o e => Nat.ne_of_lt (Nat.lt_of_lt_of_le (Heap.lt_size e) I.ok.above)
  refine ⟨I.ok, I.os, I.bare, ⟨fun b o e n hb hx => (hs.2 b (neL b o e)).trans (I.base.keep b o e n hb hx), fun b o e n hb hx => ?_, I.base.free, fun b o e hx => ?_, I.base.tups, I.base.frzs, I.base.tbls⟩, ⟨m', hn', fun i x v _ e2 _ => ?_⟩, fun y c e => ?_, I.free, I.freeC, fun p hp => ?_, fun b ob e => ?_, by simp⟩
  · obtain ⟨sl, e1⟩ := I.base.slot b o e n hb hx
    exact ⟨sl, (hs.2 b (neL b o e)).trans e1⟩
  · obtain ⟨o', e1⟩ := I.base.there b o e hx
    exact ⟨o', (hs.2 b (neL b o e)).trans e1⟩
  · rw [List.getElem?_replicate] at e2
    split at e2 <;> cases e2
  · obtain ⟨w', z⟩ := I.cell y c e
    exact ⟨w', z.sameBut hs (I.cne y c e)⟩
  · obtain ⟨e, n, ne, nf, d⟩ := I.pin p hp
    exact ⟨(hs.2 p.1 ne).trans e, n, ne, nf, d⟩
  · refine (I.hok b ob e).stay (fun c w' hc q => (hs.2 c ?_).trans q) (fun _ q => q) fun _ _ q => q
    rintro rfl
    rcases hc with rfl | hc
    · rw [I.free] at e; cases e
    · rw [I.free] at hc; cases hc
/-- the state in which it is caught -/
theorem Inv.caught {H1 H' : Hp} {s1 s' : Shared} {ea t C : Addr} {B h' : Heap} {fl : Value} (I : Inv X pins σ H1 s1) (os : s'.os = s1.os) (bare : AllBare s'.gens) (un : Un (frs X.stack) [] H1 H' s1.heap s'.heap) (hok : HOk X.prog X.w H' s'.heap)
    (fl0 : FlyX B X.stack ea (.ref C) t .none s'.heap) (cov : ∀ b o, s'.heap.get? b = some o → b ∉ frs X.stack → ((∃ u, H' b = some u) ∨ ∃ o', s1.heap.get? b = some o') → B.get? b = some o)
    (y : FlyX B X.stack ea (.ref C) t fl h') (up : s'.heap.UpToSlots h') : H' ea = none ∧ Inv X pins σ (upd H' ea (exO ea C)) { s' with heap := h' } := by
  have frm : ∀ b ∈ frs X.stack, H' b = none := fun b hb => by
    obtain ⟨_, o, ho, _⟩ := I.stack.mem hb
    exact un.free b o ho (I.stkFree b hb) (by simp)
  have covT : ∀ b o, s'.heap.get? b = some o → (∃ u, H' b = some u) → B.get? b = some o := fun b o e tr => cov b o e (fun z => by
    obtain ⟨u, hu⟩ := tr
    rw [frm b z] at hu
    cases hu) (.inl tr)
  have slots : ∀ b o, s'.heap.get? b = some o → b ∈ frs X.stack → ∃ sl, h'.get? b = some { o with slots := sl } := fun b o e hb => by
    obtain ⟨_, o2, ho, hd⟩ := fl0.2.2.1.mem hb
    rw [e] at ho
    cases ho
    exact up b o e hd
  obtain ⟨T0, oT0, ts0, x4, _⟩ := fl0.2.2.2
  obtain ⟨T, oT, ts, y4, _⟩ := y.2.2.2
  have hE : H' ea = none := by
    cases z : H' ea with
    | none => rfl
    | some u =>
      have := covT ea _ x4 ⟨u, z⟩
      rw [fl0.2.1] at this
      cases this
  have neE : ∀ b o, s1.heap.get? b = some o → b ≠ ea := fun b o e z => by
    by_cases hb : b ∈ frs X.stack
    · obtain ⟨_, o2, ho, hd⟩ := fl0.2.2.1.mem hb
      rw [z, x4] at ho
      cases ho
      exact hd _ rfl
    · obtain ⟨o', e'⟩ := un.there b o e (by simp)
      have := cov b o' e' hb (.inr ⟨o, e⟩)
      rw [z, fl0.2.1] at this
      cases this
  have neT : ∀ b u, H' b = some u → b ≠ ea := fun b u e z => by rw [z, hE] at e; cases e
  refine ⟨hE, I.call' (s' := { s' with heap := h' }) (ch := []) os ⟨fun b o e n hb hx => ?_, fun b o e n hb hx => ?_, fun b o e n hx => ?_, fun b o e hx => ?_, fun b xs e => ?_, fun b o u e => ?_, fun b ps e => ?_⟩ ?_ bare fun b z => absurd z (by simp)⟩
  · exact y.1 b o (cov b o (un.keep b o e n hb hx) hb (.inr ⟨o, e⟩))
  · obtain ⟨sl, e1⟩ := un.slot b o e n hb hx
    obtain ⟨sl2, e2⟩ := slots b _ e1 hb
    exact ⟨sl2, e2⟩
  · rw [upd_ne (neE b o e)]
    exact un.free b o e n hx
  · obtain ⟨o1, e1⟩ := un.there b o e hx
    by_cases hb : b ∈ frs X.stack
    · obtain ⟨sl, e2⟩ := slots b o1 e1 hb
      exact ⟨_, e2⟩
    · exact ⟨o1, y.1 b o1 (cov b o1 e1 hb (.inr ⟨o, e⟩))⟩
  · have := un.tups b xs e
    rw [upd_ne (neT b _ this)]
    exact this
  · have := un.frzs b o u e
    rw [upd_ne (neT b _ this)]
    exact this
  · obtain ⟨m, e1⟩ := un.tbls b ps e
    exact ⟨m, by rw [upd_ne (neT b _ e1)]; exact e1⟩
  · refine (fly_hok hok covT y.1).adopt hE ⟨⟨t, .ref T, y4⟩, ⟨_, y4⟩, fun h1 h2 p k => ?_⟩
    obtain ⟨t', tb', e'⟩ := p
    exact ⟨t', tb', k _ e'⟩
end
section
variable {X : Cx} {k i : Nat} {x n cn : Str} {ps : List Str} {sp : Sp} {e : Expr} {es : List Expr} {t : TA} {p p2 pos pos1 pos2 pos3 : Pos} {CE : Addr} {b0 : Stmt} {suite : List Stmt} {ts : Addr → TS}
theorem ps_tryCall (h : KnownX X.prog X.w X.K X.mg X.base k x ps sp) (hr : Room k X.A) (hg : Gl X x) (ha : PA X.nox (e :: es) t) (hgc : Gl X cn) (hmc : X.mg cn = some (.ref CE)) (hN : X.N.Nodup) (hi : X.N[i]? = some n) (hx : X.env.scope.names.lookup n = some .local)
    (hsuite : ∀ ea, PSs (hcx X ea) (b0 :: suite) (ts ea)) (hst : X.stack = X.env :: X.outer := by rfl) (hfm : X.env.frame = some X.env.locals := by rfl) (hdb : (x == ("__debug__" : Str)) = false := by decide) (hdc : (cn == ("__debug__" : Str)) = false := by decide)
    (he : starEach (e :: es) X.env = (false, eval e X.env) :: starEach es X.env := by rfl) (hpl : (backTo pos (starEach es X.env)).any (·.1) = false := by rfl) (hs : swapsWith (.Call (.Name x p) (e :: es) [] pos) none pos1.line X.env = pure false := by rfl) :
    PS X (.Try [.Expr (.Call (.Name x p) (e :: es) [] pos) pos1] [.ExceptHandler (some (.Name cn p2)) (some n) (b0 :: suite) pos2] [] [] pos3)
      (fun D σ H => t σ H fun vs H1 => sp vs H1 (fun _ H2 => D.nx σ H2) (fun cls _ H2 => ∃ C, cls = .ref C ∧ exmOne X.K (.ref C) (.ref CE) = some true ∧
        ∀ ea, H2 ea = none → ts ea { nx := fun _ _ => False, rt := D.rt } (σ.set i (some (.ref ea))) (upd H2 ea (exO ea C)))) := by
  intro pins s σ H D I hq
  obtain ⟨f, fd, F', kp, b, m, _⟩ := h
  refine wpAny_Try_except ?_
  refine wpAny_execs_cons (wpAny_Expr_any (wpAny_Call_Name_kw (ld_glob I hg m ?_ hdb)) I.quiet hs)
  refine PySem.W.callWith_K (h₀ := X.base) I.ok.mod.kin kp (wpAny_mono (ha pos pins s σ H _ (I.wish _) hq) (fun us s1 ⟨vs, H1, I1', r, q⟩ => ⟨I1'.kIn, ?_⟩) fun e' s' z => False.elim z) he hpl
  · have I1 : Inv X pins σ H1 s1 := I1'.unwish
    have hl : us.length = ps.length := by rw [← r.length]; exact F'.len _ _ _ _ q
    refine wpAny_call (codeAny_mono (F'.run X.A X.stack s1 H1 ⟨us, []⟩ us vs _ _ hr I1.env0 (by have := b s1 us I1.kIn (by simpa using hl); simpa using this) r q) fun r' s' h' => ?_)
    cases r' with
    | ok fl =>
      cases fl with
      | ret u =>
        obtain ⟨v, H', I', rv, q'⟩ := I1.after h'
        exact wpAny_execs_nil (wpAny_execs_nil ⟨σ, H', I', q'⟩)
      | next => exact False.elim h'
      | brk => exact False.elim h'
      | cont => exact False.elim h'
    | error e' =>
      dsimp only [CR] at h'
      obtain ⟨ea, tt, cls, B, H', rfl, os, bare, un, hok, fl, cov, C, rfl, hm, hts⟩ := h'
      have fl' := fl
      rw [hst] at fl'
      refine fly_noteA (hst ▸ I.ok.frames) hfm fl' fun h2 y up => ?_
      refine fly_flight (fr := none) (s := { s' with heap := h2 }) y fun h3 y3 up3 => ?_
      have y3' : FlyX B X.stack ea (.ref C) tt .none h3 := hst ▸ y3
      obtain ⟨hE, I3⟩ := I1.caught os bare un hok fl cov y3' (up.trans up3)
      obtain ⟨T3, oT3, ts3, z4, _⟩ := y3.2.2.2
      refine wpAny_handleBy_cons (codeAny_handlers_test ?_) (by intro q; cases q)
      refine ld_glob (X := hcx X ea) (I3.inH ea) hgc hmc ?_ hdc
      have LT : Looks (model X.prog X.w) h3 (typeOf (.ref ea)) (.ref C) := (Looks.ld z4).andThen .now
      refine (exm_one (M := model X.prog X.w) I3.kIn LT hm).here ?_
      dsimp only [if_true]
      refine codeAny_handlers_suite_as (fly_flight (fr := none) (s := { s' with heap := h3 }) y3 fun h4 y4 up4 => ?_)
      have y4' : FlyX B X.stack ea (.ref C) tt .none h4 := hst ▸ y4
      obtain ⟨_, I4⟩ := I1.caught os bare un hok fl cov y4' ((up.trans up3).trans up4)
      refine store_ok (X := hcx X ea) (v := .ref ea) (I4.inH ea) hN hi (.inl hx) rfl (fun s5 I5 => ?_) (.inr hx)
      refine wpAny_mono (hsuite ea pins s5 _ _ _ I5 (hts ea hE)) (fun fl6 s6 h6 => ?_) fun _ _ z => False.elim z
      cases fl6 with
      | ret u =>
        obtain ⟨v, σ', H6, I6, rv, q6⟩ := h6
        have I6' := I1.outH I6
        obtain ⟨m6, hn6, _⟩ := I6'.loc
        refine wpAny_nameGoes (show X.env.kindOf n = some .local from hx) hn6 (by rw [I.ok.kind]; rfl) fun h7 m7 hn7 hs7 => ?_
        exact ⟨v, _, H6, I6'.namesGone hn7 hs7, rv, q6⟩
      | next => obtain ⟨_, _, _, z⟩ := h6; exact False.elim z
      | brk => obtain ⟨_, _, _, z⟩ := h6; exact False.elim z
      | cont => obtain ⟨_, _, _, z⟩ := h6; exact False.elim z
end
end L2

/-! Own rules over the hand layer, 13: texts -/
namespace L2
open PySem PySem.Spec PyProof.Rows PySem.Builtin PySem.Builtin.Str
/-! ### cuts of a text -/
theorem sIx_le (n d : Nat) (hd : d ≤ n) : ∀ o : Option Int, HT.sIx n d o ≤ n
  | none => hd
  | some v => by
    show (if v < 0 then (v + (n : Int)).toNat else min v.toNat n) ≤ n
    split
    · omega
    · omega
theorem sIx_int (n d : Nat) (o : Option Int) : (match o with | none => (d : Int) | some i => max 0 (min (if i < 0 then i + (n : Int) else i) (n : Int))) = ((HT.sIx n d o : Nat) : Int) := by
  cases o with
  | none => rfl
  | some v =>
    show max 0 (min (if v < 0 then v + (n : Int) else v) (n : Int)) = (((if v < 0 then (v + (n : Int)).toNat else min v.toNat n) : Nat) : Int)
    split
    · omega
    · omega
theorem sliceRange_nat (a b : Nat) : sliceRange (a : Int) (b : Int) 1 = (List.range (b - a)).map (fun k => a + k) := by
  unfold sliceRange
  simp only [show ((1 : Int) > 0) = True from by simp, if_true]
  by_cases hlt : (a : Int) < b
  · have e3 : (((b : Int) - a + 1 - 1) / 1).toNat = b - a := by
      rw [Int.ediv_one]
      omega
    simp only [hlt, if_true, e3]
    refine List.map_congr_left fun k _ => ?_
    omega
  · have : b - a = 0 := by omega
    simp [hlt, this]
/-- z[lo:hi] -/
def cutS (z : Str) (lo hi : Option Int) : Str := ⟨((z.cps.toList.drop (HT.sIx z.length 0 lo)).take (HT.sIx z.length z.length hi - HT.sIx z.length 0 lo)).toArray⟩
theorem slicePicked_cut (z : Str) (l u : Option (Int × Tok)) : slicePicked z l u none = (List.range (HT.sIx z.length z.length (u.map (·.1)) - HT.sIx z.length 0 (l.map (·.1)))).map (fun k => HT.sIx z.length 0 (l.map (·.1)) + k) := by
  have h1 := sIx_int z.length 0 (l.map (·.1))
  have h2 := sIx_int z.length z.length (u.map (·.1))
  rw [← sliceRange_nat, ← h1, ← h2]
  unfold slicePicked strSliceIndices
  simp only [Option.map_none, Option.getD_none, show ((1 : Int) > 0) = True from by simp, if_true]
  rfl
theorem cutS_pick (z : Str) (l u : Option (Int × Tok)) : (⟨((slicePicked z l u none).filterMap (z.cps[·]?)).toArray⟩ : Str) = cutS z (l.map (·.1)) (u.map (·.1)) := by
  have hl : z.cps.toList.length = z.length := by simp [Str.length]
  have ha := sIx_le z.length 0 (Nat.zero_le _) (l.map (·.1))
  have hb := sIx_le z.length z.length (Nat.le_refl _) (u.map (·.1))
  rw [slicePicked_cut]
  have h := StrLaws.picks z.cps.toList (HT.sIx z.length z.length (u.map (·.1)) - HT.sIx z.length 0 (l.map (·.1))) (HT.sIx z.length 0 (l.map (·.1))) (by omega)
  unfold cutS
  rw [← h]
  congr 1
  simp
theorem cutS_whole (z : Str) (l u : Option (Int × Tok)) (h : (slicePicked z l u none).length = z.length) : cutS z (l.map (·.1)) (u.map (·.1)) = z := by
  rw [slicePicked_cut, List.length_map, List.length_range] at h
  have hl : z.cps.toList.length = z.length := by simp [Str.length]
  have ha := sIx_le z.length 0 (Nat.zero_le _) (l.map (·.1))
  have hb := sIx_le z.length z.length (Nat.le_refl _) (u.map (·.1))
  have e1 : HT.sIx z.length 0 (l.map (·.1)) = 0 := by omega
  have e2 : HT.sIx z.length z.length (u.map (·.1)) = z.length := by omega
  unfold cutS
  rw [e1, e2, List.drop_zero, Nat.sub_zero, ← hl, List.take_length]
theorem cutS_length (z : Str) (lo hi : Option Int) : (cutS z lo hi).length ≤ z.length := by
  have hl : z.cps.toList.length = z.length := by simp [Str.length]
  show ((z.cps.toList.drop _).take _).toArray.size ≤ z.length
  rw [List.size_toArray, List.length_take, List.length_drop]
  omega
section
variable {X : Cx}
def rSlS : V → Option Int → Option Int → Hp → VK → Prop := fun x lo hi H Q => ∃ z, x = .str z ∧ z.length ≤ sizeLine ∧ Q (.str (cutS z lo hi)) H
theorem isPart_of {v : Value} {o : Option Int} (h : IsPart v o) : ∃ p : Option (Int × Tok), v = partValue p ∧ p.map (·.1) = o := by
  cases h with
  | none => exact ⟨none, rfl, rfl⟩
  | int i t => exact ⟨some (i, t), rfl, rfl⟩
theorem sl_str : SlR X rSlS := by
  intro pins s σ H x v vl vu lo hi sl Q I rx hs pl pu h
  obtain ⟨z, rfl, hz, q⟩ := h
  obtain ⟨t, rfl⟩ := rx
  obtain ⟨l, rfl, rfl⟩ := isPart_of pl
  obtain ⟨u, rfl, rfl⟩ := isPart_of pu
  refine ⟨"str", _, F.slot_str_getitem.lookup, typeIs_str s z t, ?_⟩
  refine wpAny_getItem_str_slice (l := l) (u := u) (st := none) hs rfl ?_
  unfold sliceMade
  by_cases hc : (((none : Option (Int × Tok)).map (·.1)).getD 1 == 1 && (slicePicked z l u none).length == z.length) = true
  · rw [if_pos hc]
    rw [Bool.and_eq_true] at hc
    have e := cutS_whole z l u (by simpa using hc.2)
    rw [e] at q
    exact ⟨.str z, H, I, ⟨t, rfl⟩, q⟩
  · rw [if_neg hc, cutS_pick]
    exact ⟨Nat.le_trans (cutS_length z _ _) hz, .str _, H, I.tok _, ⟨_, rfl⟩, q⟩
end
/-! ### lists of texts -/
theorem vals_strs : ∀ l : List (Str × Tok), Vals ((l.map (·.1)).map V.str) (strValues l)
  | [] => .nil
  | p :: r => .cons ⟨p.2, rfl⟩ (vals_strs r)
theorem strs_vals : ∀ {xs : List Str} {us : List Value}, Vals (xs.map V.str) us → ∃ l : List (Str × Tok), us = strValues l ∧ l.map (·.1) = xs
  | [], us, h => by
    cases h
    exact ⟨[], rfl, rfl⟩
  | x :: r, us, h => by
    cases h with
    | cons h1 h2 =>
      obtain ⟨t, rfl⟩ := h1
      obtain ⟨l, rfl, e⟩ := strs_vals h2
      exact ⟨(x, t) :: l, rfl, by rw [List.map_cons, e]⟩
section
variable {prog : Program} {w : World} {A : Around} {E : Value → Shared → Prop} {s : Shared} {x y : Str} {t u : Tok} {Q : Value → Shared → Prop}
theorem split_at (hy : (y.length == 0) = false) (hsz : x.length ≤ sizeLine) (hsz2 : (partsBetween x (occurrences x y 0 x.length (x.length + 1)) y.length).length ≤ sizeLine)
    (hq : ∀ (l : List (Str × Tok)) (k : Nat), l.map (·.1) = Txt.split x y → Q (.ref s.heap.objs.size) { s with heap := s.heap.push { cls := .type "list", data := .seq (strValues l).toArray }, toks := k }) :
    wpAny (model prog w) A (call (.builtin "str.split") [.str x t, .str y u]) Q E s := by
  cases h1 : (decide (x.length < y.length) || decide (strKind x < strKind y))
  · cases hf : (occurrences x y 0 x.length (x.length + 1)).isEmpty
    · refine call_meets F.slot_str_split (typeIs_str _ _ _) F.entry_str_split (F.args_str_split_2 _ _) (meets_str_split_sep x y t u h1 hy hf hsz hsz2) ?_
      show wants Q E _ { s with toks := _, heap := s.heap.push { cls := .type "list", data := .seq (strsFrom s.toks (partsBetween x (occurrences x y 0 x.length (x.length + 1)) y.length)).toArray } }
      rw [strsFrom_eq]
      exact hq (numbered s.toks _) _ ((numbered_texts _ _).trans ((if_neg (ne_true_of_eq_false h1)).trans (if_neg (ne_true_of_eq_false hf))).symm)
    · exact call_meets F.slot_str_split (typeIs_str _ _ _) F.entry_str_split (F.args_str_split_2 _ _) (meets_str_split_not_found x y t u h1 hy hf)
        (hq [(x, t)] s.toks ((if_neg (ne_true_of_eq_false h1)).trans (if_pos hf)).symm)
  · exact call_meets F.slot_str_split (typeIs_str _ _ _) F.entry_str_split (F.args_str_split_2 _ _) (meets_str_split_cannot_occur x y t u h1)
      (hq [(x, t)] s.toks (if_pos h1).symm)
theorem partition_at (hy : (y.length == 0) = false) (hsz : x.length ≤ sizeLine)
    (hq : ∀ (ta tb tc : Tok) (k : Nat), Q (.ref s.heap.objs.size) { s with heap := s.heap.push { cls := .type "tuple", data := .seq [.str (Txt.partition x y).1 ta, .str (Txt.partition x y).2.1 tb, .str (Txt.partition x y).2.2 tc].toArray }, toks := k }) :
    wpAny (model prog w) A (call (.builtin "str.partition") [.str x t, .str y u]) Q E s := by
  refine call_meets F.slot_str_partition (typeIs_str _ _ _) F.entry_str_partition (F.args_str_partition_2 _ _) (meets_str_partition x y t u hy hsz) ?_
  have h' := hq
  unfold Txt.partition at h'
  revert h'
  cases occurrences x y 0 x.length 1 with
  | nil => intro h'; exact h' _ _ _ _
  | cons i r => intro h'; exact h' _ _ _ _
end
section
variable {X : Cx}
def rSplit : V → List V → Hp → VK → Prop := fun x xs H Q => ∃ a b, x = .str a ∧ xs = [.str b] ∧ (b.length == 0) = false ∧ a.length ≤ sizeLine ∧ (partsBetween a (occurrences a b 0 a.length (a.length + 1)) b.length).length ≤ sizeLine ∧ (Txt.split a b).length ≤ sizeLine ∧
  ∀ l, H l = none → Q (.ref l) (upd H l (.lst ((Txt.split a b).map V.str)))
theorem mt_split : MtR X "str.split" rSplit := by
  intro pins s σ H x xs v us Q I rx rs h
  obtain ⟨a, b, rfl, rfl, hb, ha, h1, h2, q⟩ := h
  obtain ⟨t, rfl⟩ := rx
  obtain ⟨u, rfl, t', rfl⟩ := vals1 rs
  refine split_at hb ha h1 fun l k e => ?_
  have hf : H s.heap.objs.size = none := I.hok.fresh (Nat.le_refl _)
  refine ⟨.ref s.heap.objs.size, upd H s.heap.objs.size (.lst ((Txt.split a b).map V.str)), I.laid (t' := k) (fun b u e => Heap.get?_push_of_some _ e) (Nat.le_refl _) ?_, rfl, q _ hf⟩
  refine ⟨by rw [List.length_map]; exact h2, strValues l, 0, ?_, Heap.get?_push_size _ rfl⟩
  rw [← e]
  exact vals_strs l
def rPartition : V → List V → Hp → VK → Prop := fun x xs H Q => ∃ a b, x = .str a ∧ xs = [.str b] ∧ (b.length == 0) = false ∧ a.length ≤ sizeLine ∧
  ∀ l, H l = none → Q (.ref l) (upd H l (.tup [.str (Txt.partition a b).1, .str (Txt.partition a b).2.1, .str (Txt.partition a b).2.2]))
theorem mt_partition : MtR X "str.partition" rPartition := by
  intro pins s σ H x xs v us Q I rx rs h
  obtain ⟨a, b, rfl, rfl, hb, ha, q⟩ := h
  obtain ⟨t, rfl⟩ := rx
  obtain ⟨u, rfl, t', rfl⟩ := vals1 rs
  refine partition_at hb ha fun ta tb tc k => ?_
  have hf : H s.heap.objs.size = none := I.hok.fresh (Nat.le_refl _)
  refine ⟨.ref s.heap.objs.size, upd H s.heap.objs.size (.tup [.str (Txt.partition a b).1, .str (Txt.partition a b).2.1, .str (Txt.partition a b).2.2]), I.laid (t' := k) (fun b u e => Heap.get?_push_of_some _ e) (Nat.le_refl _) ?_, rfl, q _ hf⟩
  exact ⟨by show 3 ≤ sizeLine; decide, _, .cons ⟨ta, rfl⟩ (.cons ⟨tb, rfl⟩ (.cons ⟨tc, rfl⟩ .nil)), ⟨_, Heap.get?_push_size _ rfl, rfl, _, rfl⟩⟩
def rStrip : V → List V → Hp → VK → Prop := fun x xs H Q => ∃ a b, x = .str a ∧ xs = [.str b] ∧ a.length ≤ sizeLine ∧ Q (.str (Txt.stripChars a b)) H
theorem mt_strip : MtR X "str.strip" rStrip := by
  intro pins s σ H x xs v us Q I rx rs h
  obtain ⟨a, b, rfl, rfl, ha, q⟩ := h
  obtain ⟨t, rfl⟩ := rx
  obtain ⟨u, rfl, t', rfl⟩ := vals1 rs
  exact SC.stripChars (fun t' k => ⟨.str _, H, I.tok _, ⟨_, rfl⟩, q⟩) ha
def rEndswith : V → List V → Hp → VK → Prop := fun x xs H Q => ∃ a b, x = .str a ∧ xs = [.str b] ∧ Q (.bl (Txt.endswith a b)) H
theorem mt_endswith : MtR X "str.endswith" rEndswith := by
  intro pins s σ H x xs v us Q I rx rs h
  obtain ⟨a, b, rfl, rfl, q⟩ := h
  obtain ⟨t, rfl⟩ := rx
  obtain ⟨u, rfl, t', rfl⟩ := vals1 rs
  exact SC.endswith ⟨.bl _, H, I, rfl, q⟩
def rJoin (K : PySem.W.Frag) : V → List V → Hp → VK → Prop := fun x xs H Q => ∃ a p ts, x = .str a ∧ xs = [.ref p] ∧ SqL K H p (ts.map V.str) ∧ JoinOk a ts = true ∧ Q (.str (Str.join a ts)) H
theorem mt_join : MtR X "str.join" (rJoin X.K) := by
  intro pins s σ H x xs v us Q I rx rs h
  obtain ⟨a, p, ts, rfl, rfl, hp, ok, q⟩ := h
  obtain ⟨t, rfl⟩ := rx
  obtain ⟨u, rfl, rp⟩ := vals1 rs
  cases rp
  obtain ⟨its, rv, pl, hz⟩ := I.list hp
  obtain ⟨l, rfl, e⟩ := strs_vals rv
  refine SC.join pl.isList e ok fun t' k => ?_
  have e2 : Txt.join a ts = Str.join a ts := StrLaws.glued_eq_join a ts
  rw [e2]
  exact ⟨.str _, H, I.tok _, ⟨_, rfl⟩, q⟩
def rMulS : R2 := fun x y H Q => ∃ z n, x = .str z ∧ y = .int n ∧ 1 < n ∧ 0 < z.length ∧ n < 2 ^ 62 ∧ (z.length * n.toNat : Nat) ≤ 16777216 ∧ Q (.str ⟨(List.replicate n.toNat z.cps).foldl (· ++ ·) #[]⟩) H
theorem op_mul_str : OpR X (binaryOp .Mult) rMulS := by
  intro pins s σ H x y v u Q I rx ry h
  obtain ⟨z, n, rfl, rfl, h1, h2, h3, h4, q⟩ := h
  obtain ⟨t, rfl⟩ := rx
  obtain ⟨t', rfl⟩ := ry
  have e0 : (n == 1 || z.length == 0) = false := by
    have a : (n == 1) = false := by simpa using (by omega : n ≠ 1)
    have b : (z.length == 0) = false := by simpa using (by omega : z.length ≠ 0)
    rw [a, b]; rfl
  have e1 : sizeLine = 16777216 := rfl
  have hlen : (⟨(List.replicate n.toNat z.cps).foldl (· ++ ·) #[]⟩ : Str).length = z.length * n.toNat := by
    have aux : ∀ (k : Nat) (acc : Array Nat), ((List.replicate k z.cps).foldl (· ++ ·) acc).size = acc.size + z.length * k := by
      intro k
      induction k with
      | zero => intro acc; simp
      | succ k ih =>
        intro acc
        rw [List.replicate_succ, List.foldl_cons, ih, Array.size_append, Nat.mul_succ]
        show acc.size + z.length + z.length * k = acc.size + (z.length * k + z.length)
        omega
    show ((List.replicate n.toNat z.cps).foldl (· ++ ·) #[]).size = _
    rw [aux]
    simp
  refine P.mul_str (by
    have a : decide (n < -(2 ^ 63 : Int)) = false := decide_eq_false (by omega)
    have b : decide (n ≥ 2 ^ 63) = false := decide_eq_false (by omega)
    rw [a, b]; rfl) (fun _ _ => ?_) (fun _ _ => ?_) ?_
  · have hm : (z.length : Int) * n ≤ 16777216 := by
      have : ((z.length * n.toNat : Nat) : Int) ≤ ((16777216 : Nat) : Int) := Int.ofNat_le.mpr h4
      rw [Int.natCast_mul, Int.toNat_of_nonneg (by omega)] at this
      exact this
    have hd : (z.length : Int) ≤ (2 ^ 63 - 1) / n := by
      rw [Int.le_ediv_iff_mul_le (by omega)]
      omega
    omega
  · unfold tooLong
    exact decide_eq_false (by rw [e1]; omega)
  · rw [if_neg (by omega), if_neg (by rw [e0]; decide)]
    exact ⟨by rw [hlen, e1]; exact h4, .str _, H, I.tok _, ⟨_, rfl⟩, q⟩
theorem call_int_str : CallR X (.type "int") (fun xs H Q => ∃ x n, xs = [.str x] ∧ PySem.intText? x = some n ∧ x.length ≤ 640 ∧ Q (.int n) H) := by
  intro pins s σ H xs us Q I r h
  obtain ⟨x, n, rfl, hn, hl, q⟩ := h
  obtain ⟨u, rfl, t, rfl⟩ := vals1 r
  exact PySem.W.KIN.call_text hn hl ⟨.int n, H, I.tok _, ⟨_, rfl⟩, q⟩
theorem pe_globS {x z : Str} {pos : Pos} (hg : Gl X x) (hm : ∃ t, X.mg x = some (.str z t)) (hd : (x == ("__debug__" : Str)) = false := by decide) : PE X (.Name x pos) (tC (.str z)) := by
  obtain ⟨t, hm⟩ := hm
  exact pe_glob hg hm ⟨t, rfl⟩ hd
end
/-! ### the signs of a text, walked -/
def Its (z : Str) : It := ⟨fun i _ => i < z.length, fun i H x H' => H' = H ∧ ∃ c, z.cps.toList[i]? = some c ∧ x = .str ⟨#[c]⟩, fun i _ => z.length ≤ i⟩
def iStr (tl : TE) : TI := fun σ H R => tl σ H fun x H1 => ∃ z, x = .str z ∧ R (Its z) H1
section
variable {X : Cx} {tg : Expr}
theorem turn_strA {P : Program} {w : World} {K : PySem.W.Frag} (it : Addr) (z : Str) (t : Tok) : Turn P w K tg (Its z) [it] it (fun i h => h.IsStrIter it "str_ascii_iterator" z t i) where
  mem := by simp
  obj := fun i h st b hb => by
    have e : b = it := by simpa using hb
    subst e
    obtain ⟨o, e, c, d⟩ := st
    exact ⟨o, e, fun v z => by rw [d] at z; cases z⟩
  keep := fun i h h' st k => by
    obtain ⟨o, e, r⟩ := st
    exact ⟨o, k it (by simp) o e, r⟩
  item := by
    intro X hP hw hK hc i pins s σ H E I hf st hg
    subst hP hw hK
    obtain ⟨f0, f1, f2, f3, f4, f5⟩ := hf it (by simp)
    have hi : i < z.cps.size := hg
    refine wpAny_pyNext_ascii_item st (c := z.cps[i]) (by simp [hi]) fun h' st' sb => ?_
    have I1 : Inv X pins σ H { s with heap := h', toks := s.toks + 1 } := I.turned (fun b o hb e => (sb.2 b hb).trans e) f0 f1 f3 f4 f5
    obtain ⟨o, e1, e2, e3⟩ := id st'
    exact ⟨_, rfl, go_of (s := { s with heap := h', toks := s.toks + 1 }) e1 e2 e3 (by decide) ⟨.str ⟨#[z.cps[i]]⟩, H, I1, ⟨_, rfl⟩, ⟨rfl, z.cps[i], by simp [hi], rfl⟩, st', fun b hb => (hf b hb).1⟩⟩
  done := by
    intro X hP hw hK hc i pins s σ H E I hf st hg
    subst hP hw hK
    obtain ⟨f0, f1, f2, f3, f4, f5⟩ := hf it (by simp)
    have hi : z.cps.size ≤ i := hg
    exact wpAny_pyNext_ascii_end (I.ok.hd hc) st (by simp [hi]) fun h' eb => ⟨rfl, I.turned (t' := s.toks) (fun b o hb e => eb b o hb e) f0 f1 f3 f4 f5⟩
  self := fun _ _ _ _ _ st h => wpAny_pyIter_striter_ascii st h
theorem turn_strW {P : Program} {w : World} {K : PySem.W.Frag} (it : Addr) (z : Str) (t : Tok) : Turn P w K tg (Its z) [it] it (fun i h => h.IsStrIter it "str_iterator" z t i) where
  mem := by simp
  obj := fun i h st b hb => by
    have e : b = it := by simpa using hb
    subst e
    obtain ⟨o, e, c, d⟩ := st
    exact ⟨o, e, fun v z => by rw [d] at z; cases z⟩
  keep := fun i h h' st k => by
    obtain ⟨o, e, r⟩ := st
    exact ⟨o, k it (by simp) o e, r⟩
  item := by
    intro X hP hw hK hc i pins s σ H E I hf st hg
    subst hP hw hK
    obtain ⟨f0, f1, f2, f3, f4, f5⟩ := hf it (by simp)
    have hi : i < z.cps.size := hg
    refine wpAny_pyNext_wide_item st (c := z.cps[i]) (by simp [hi]) fun h' st' sb => ?_
    have I1 : Inv X pins σ H { s with heap := h', toks := s.toks + 1 } := I.turned (fun b o hb e => (sb.2 b hb).trans e) f0 f1 f3 f4 f5
    obtain ⟨o, e1, e2, e3⟩ := id st'
    exact ⟨_, rfl, go_of (s := { s with heap := h', toks := s.toks + 1 }) e1 e2 e3 (by decide) ⟨.str ⟨#[z.cps[i]]⟩, H, I1, ⟨_, rfl⟩, ⟨rfl, z.cps[i], by simp [hi], rfl⟩, st', fun b hb => (hf b hb).1⟩⟩
  done := by
    intro X hP hw hK hc i pins s σ H E I hf st hg
    subst hP hw hK
    obtain ⟨f0, f1, f2, f3, f4, f5⟩ := hf it (by simp)
    have hi : z.cps.size ≤ i := hg
    exact wpAny_pyNext_wide_end (I.ok.hd hc) st (by simp [hi]) fun h' eb => ⟨rfl, I.turned (t' := s.toks) (fun b o hb e => eb b o hb e) f0 f1 f3 f4 f5⟩
  self := fun _ _ _ _ _ st h => wpAny_pyIter_striter_wide st h
theorem pi_str {l : Expr} {tl : TE} (hl : PE X l tl) : PI X tg l (iStr tl) := by
  intro pins s σ H R I h
  refine thn (hl pins s σ H _ I h) fun v s1 ⟨x, H1, I1, r1, q1⟩ => ?_
  obtain ⟨z, e, q⟩ := q1
  subst e
  obtain ⟨t, rfl⟩ := r1
  cases ha : z.cps.all (· < 128)
  · refine wpAny_pyIter_wide ha ⟨s1.heap.objs.size, [s1.heap.objs.size], _, _, H1, rfl, I1.kept (t' := s1.toks) fun b o e => Heap.get?_push_of_some _ e, turn_strW _ z t, ⟨_, Heap.get?_push_size _ rfl, rfl, rfl⟩, fun b hb => ?_, q⟩
    have e : b = s1.heap.objs.size := by simpa using hb
    subst e
    exact I1.fpOk (Nat.le_refl _) (I1.hok.fresh (Nat.le_refl _))
  · refine wpAny_pyIter_ascii ha ⟨s1.heap.objs.size, [s1.heap.objs.size], _, _, H1, rfl, I1.kept (t' := s1.toks) fun b o e => Heap.get?_push_of_some _ e, turn_strA _ z t, ⟨_, Heap.get?_push_size _ rfl, rfl, rfl⟩, fun b hb => ?_, q⟩
    have e : b = s1.heap.objs.size := by simpa using hb
    subst e
    exact I1.fpOk (Nat.le_refl _) (I1.hok.fresh (Nat.le_refl _))
/-- a comprehension over a text's signs, that makes nothing on its way -/
theorem comp_str {z : Str} {ρ : St} {v0 : Option V} {te : TE} {Q : VK} {H : Hp} (f : Nat → V) (hz : z.length ≤ sizeLine)
    (hf : ∀ c ∈ z.cps.toList, ∀ R : VK, R (f c) H → te (some (.str ⟨#[c]⟩) :: ρ) H R) (hq : ∀ D, H D = none → Q (.ref D) (upd H D (.lst (z.cps.toList.map f)))) :
    ∃ W : Nat → Nat → List V → St → Hp → Prop, (∃ m, W 0 m [] (v0 :: ρ) H) ∧ CompW (Its z) (gName 0) tAll te Q W := by
  have hl : z.cps.toList.length = z.length := by simp [Str.length]
  refine ⟨fun i m acc σ H' => m = z.length - i ∧ i ≤ z.length ∧ acc = (z.cps.toList.take i).map f ∧ H' = H ∧ ∃ v, σ = v :: ρ, ⟨z.length, rfl, Nat.zero_le _, rfl, rfl, v0, rfl⟩, ?_⟩
  rintro i m acc σ H' ⟨rfl, hi, rfl, rfl, v, rfl⟩
  by_cases hlt : i < z.length
  · refine .inr ⟨hlt, ?_, fun x H2 y => ?_⟩
    · rw [List.length_map, List.length_take]
      omega
    · obtain ⟨e, c, hc, rfl⟩ := y
      subst e
      simp only [gName, tAll, List.set_cons_zero, if_true]
      refine hf c (List.mem_of_getElem? hc) _ ⟨z.length - (i + 1), by omega, rfl, hlt, ?_, rfl, _, rfl⟩
      rw [List.take_add_one, hc, List.map_append]
      rfl
  · have e : i = z.length := by omega
    subst e
    refine .inl ⟨Nat.le_refl _, fun D hD => ?_⟩
    rw [← hl, List.take_length]
    exact hq D hD
end
/-! ### f-strings -/
abbrev TJ := Str → St → Hp → VK → Prop
def PJ (X : Cx) (es : List Expr) (t : TJ) : Prop :=
  ∀ (pins : List (Addr × Obj)) (s : Shared) (σ : St) (H : Hp) (out : Str) (Q : VK), Inv X pins σ H s → t out σ H Q → wpAny (model X.prog X.w) X.A (joinParts out (evalEach es X.env)) (EP X pins σ Q) X.xe s
def jNil : TJ := fun out _ H Q => out.length ≤ sizeLine ∧ Q (.str out) H
def jCons (te : TE) (t : TJ) : TJ := fun out σ H Q => te σ H fun x H1 => ∃ y, x = .str y ∧ (out ++ y).length ≤ sizeLine ∧ t (out ++ y) σ H1 Q
def tJoined (t : TJ) : TE := fun σ H Q => t Str.empty σ H Q
def tFmt (te : TE) : TE := fun σ H Q => te σ H fun x H1 => (∃ i, x = .int i ∧ i.natAbs.log2 < 1920 ∧ Q (.str (toString i)) H1) ∨ ∃ y, x = .str y ∧ y.length ≤ sizeLine ∧ Q (.str y) H1
section
variable {X : Cx} {e v₁ v₂ : Expr} {es : List Expr} {te : TE} {t : TJ} {pos : Pos}
theorem pj_nil : PJ X [] jNil := fun _ _ _ H _ _ I h => joinParts_nil ⟨.str _, H, I.tok _, ⟨_, rfl⟩, h.2⟩ h.1
theorem pj_cons (he : PE X e te) (hr : PJ X es t) (hs : evalEach (e :: es) X.env = eval e X.env :: evalEach es X.env := by rfl) : PJ X (e :: es) (jCons te t) := by
  intro pins s σ H out Q I h
  rw [hs]
  refine joinParts_cons (thn (he pins s σ H _ I h) fun u s1 ⟨x, H1, I1, r1, y, e, hz, q1⟩ => ?_)
  subst e
  obtain ⟨tk, rfl⟩ := r1
  exact ⟨hz, hr pins s1 σ H1 _ Q I1 q1⟩
theorem pe_joined (h : PJ X (v₁ :: v₂ :: es) t) (hs : evalEach (v₁ :: v₂ :: es) X.env = eval v₁ X.env :: eval v₂ X.env :: evalEach es X.env := by rfl) : PE X (.JoinedStr (v₁ :: v₂ :: es) pos) (tJoined t) := by
  intro pins s σ H Q I hq
  refine JoinedStr_many ?_
  rw [← hs]
  exact h pins s σ H _ Q I hq
theorem pe_fmt (h : PE X e te) : PE X (.FormattedValue e (-1) none pos) (tFmt te) := by
  intro pins s σ H Q I hq
  refine FormattedValue_plain (thn (h pins s σ H _ I hq) fun u s1 ⟨x, H1, I1, r1, q1⟩ => ?_)
  rcases q1 with ⟨i, rfl, hl, q⟩ | ⟨y, rfl, hl, q⟩
  · obtain ⟨tk, rfl⟩ := r1
    exact formatField_int_small hl ⟨.str _, H1, I1.tok _, ⟨_, rfl⟩, q⟩
  · obtain ⟨tk, rfl⟩ := r1
    exact formatField_str (fun t' k => ⟨.str _, H1, I1.tok _, ⟨_, rfl⟩, q⟩) hl
end
end L2

/-! Own rules over the hand layer, 14: comprehensions whose element makes things or may raise; displays of texts -/
namespace L2
open PySem PySem.Spec PyProof.Rows
def allSome {α : Type} : List (Option α) → Option (List α)
  | [] => some []
  | none :: _ => none
  | some a :: r => (allSome r).map (a :: ·)
theorem allSome_snoc {α : Type} : ∀ (l : List (Option α)) (y : α) (acc : List α), allSome l = some acc → allSome (l ++ [some y]) = some (acc ++ [y])
  | [], y, acc, h => by
    cases h
    rfl
  | none :: r, y, acc, h => by cases h
  | some a :: r, y, acc, h => by
    cases hr : allSome r with
    | none =>
      have h' : (allSome r).map (a :: ·) = some acc := h
      rw [hr] at h'
      cases h'
    | some bs =>
      have h' : (allSome r).map (a :: ·) = some acc := h
      rw [hr] at h'
      cases h'
      show (allSome (r ++ [some y])).map (a :: ·) = _
      rw [allSome_snoc r y bs hr]
      rfl
theorem allSome_len {α : Type} : ∀ {l : List (Option α)} {acc : List α}, allSome l = some acc → acc.length = l.length
  | [], acc, h => by
    cases h
    rfl
  | none :: r, acc, h => by cases h
  | some a :: r, acc, h => by
    have h' : (allSome r).map (a :: ·) = some acc := h
    cases hr : allSome r with
    | none => rw [hr] at h'; cases h'
    | some bs =>
      rw [hr] at h'
      cases h'
      rw [List.length_cons, List.length_cons, allSome_len hr]
theorem allSome_map {α β : Type} (f : α → β) : ∀ l : List α, allSome (l.map fun x => some (f x)) = some (l.map f)
  | [] => rfl
  | a :: r => by
    show (allSome (r.map fun x => some (f x))).map (f a :: ·) = _
    rw [allSome_map f r]
    rfl
/-- over a list; the element may make things, and may end the walk -/
theorem comp_listX {K : PySem.W.Frag} {a : Addr} {xs : List V} {ρ : St} {v0 : Option V} {te : TE} {Q : VK} {H : Hp} (g : V → Option V) (hl : SqL K H a xs) (hz : xs.length ≤ sizeLine)
    (hf : ∀ x ∈ xs, ∀ H1, Same H H1 → ∀ R : VK, (∀ y, g x = some y → ∀ H2, Same H1 H2 → R y H2) → te (some x :: ρ) H1 R) (hq : ∀ D ys H', allSome (xs.map g) = some ys → Same H H' → H D = none → H' D = some (.lst ys) → Q (.ref D) H') :
    ∃ W : Nat → Nat → List V → St → Hp → Prop, (∃ m, W 0 m [] (v0 :: ρ) H) ∧ CompW (Itl K a) (gName 0) tAll te Q W := by
  refine ⟨fun i m acc σ H' => m = xs.length - i ∧ i ≤ xs.length ∧ allSome ((xs.take i).map g) = some acc ∧ Same H H' ∧ ∃ v, σ = v :: ρ, ⟨xs.length, rfl, Nat.zero_le _, rfl, Same.refl _, v0, rfl⟩, ?_⟩
  rintro i m acc σ H' ⟨rfl, hi, hacc, sm, v, rfl⟩
  have hlen := allSome_len hacc
  rw [List.length_map, List.length_take] at hlen
  by_cases hlt : i < xs.length
  · refine .inr ⟨⟨xs, xs[i], sm.seq hl, by simp [hlt]⟩, by omega, fun x H2 y => ?_⟩
    obtain ⟨e, y⟩ := y
    subst e
    have hx : xs[i]? = some x := y xs (sm.seq hl)
    have hxe : xs[i] = x := by
      rw [List.getElem?_eq_getElem hlt] at hx
      exact Option.some.inj hx
    simp only [gName, tAll, List.set_cons_zero, if_true]
    refine hf x (hxe ▸ List.getElem_mem hlt) _ sm _ fun y' hy H3 s3 => ⟨xs.length - (i + 1), by omega, rfl, hlt, ?_, sm.trans s3, _, rfl⟩
    rw [List.take_succ_eq_append_getElem hlt, List.map_append, hxe]
    show allSome ((xs.take i).map g ++ [g x]) = _
    rw [hy]
    exact allSome_snoc _ _ _ hacc
  · have e : i = xs.length := by omega
    subst e
    refine .inl ⟨⟨xs, sm.seq hl, Nat.le_refl _⟩, fun D hD => ?_⟩
    rw [List.take_length] at hacc
    exact hq D acc _ hacc (sm.trans (Same.upd hD _)) (sm.free hD) upd_same
theorem comp_listS {K : PySem.W.Frag} {a : Addr} {xs : List V} {ρ : St} {v0 : Option V} {te : TE} {Q : VK} {H : Hp} (f : V → V) (hl : SqL K H a xs) (hz : xs.length ≤ sizeLine)
    (hf : ∀ x ∈ xs, ∀ H1, Same H H1 → ∀ R : VK, (∀ H2, Same H1 H2 → R (f x) H2) → te (some x :: ρ) H1 R) (hq : ∀ D H', Same H H' → H D = none → H' D = some (.lst (xs.map f)) → Q (.ref D) H') :
    ∃ W : Nat → Nat → List V → St → Hp → Prop, (∃ m, W 0 m [] (v0 :: ρ) H) ∧ CompW (Itl K a) (gName 0) tAll te Q W :=
  comp_listX (fun x => some (f x)) hl hz (fun x hx H1 s1 R r => hf x hx H1 s1 R fun H2 s2 => r _ rfl H2 s2) fun D ys H' e s h0 hD => by
    rw [allSome_map] at e
    cases e
    exact hq D H' s h0 hD
/-- over a range; the element may make things -/
theorem comp_rangeS {lo : Int} {n : Nat} {ρ : St} {v0 : Option V} {te : TE} {Q : VK} {H : Hp} (f : Int → V) (hz : n ≤ sizeLine)
    (hf : ∀ i : Nat, i < n → ∀ H1, Same H H1 → ∀ R : VK, (∀ H2, Same H1 H2 → R (f (lo + i)) H2) → te (some (.int (lo + i)) :: ρ) H1 R) (hq : ∀ D H', Same H H' → H D = none → H' D = some (.lst ((List.range n).map fun i : Nat => f (lo + i))) → Q (.ref D) H') :
    ∃ W : Nat → Nat → List V → St → Hp → Prop, (∃ m, W 0 m [] (v0 :: ρ) H) ∧ CompW (Itr lo n) (gName 0) tAll te Q W := by
  refine ⟨fun i m acc σ H' => m = n - i ∧ i ≤ n ∧ acc = ((List.range i).map fun i : Nat => f (lo + i)) ∧ Same H H' ∧ ∃ v, σ = v :: ρ, ⟨n, rfl, Nat.zero_le _, rfl, Same.refl _, v0, rfl⟩, ?_⟩
  rintro i m acc σ H' ⟨rfl, hi, rfl, sm, v, rfl⟩
  by_cases hlt : i < n
  · refine .inr ⟨hlt, by rw [List.length_map, List.length_range]; omega, fun x H2 y => ?_⟩
    obtain ⟨e, y⟩ := y
    subst e
    subst y
    simp only [gName, tAll, List.set_cons_zero, if_true]
    refine hf i hlt _ sm _ fun H3 s3 => ⟨n - (i + 1), by omega, rfl, hlt, ?_, sm.trans s3, _, rfl⟩
    rw [List.range_succ, List.map_append]
    rfl
  · have e : i = n := by omega
    subst e
    exact .inl ⟨Nat.le_refl _, fun D hD => hq D _ (sm.trans (Same.upd hD _)) (sm.free hD) upd_same⟩
/-! ### displays of texts -/
def strsOf : List Expr → Option (List Str)
  | [] => some []
  | .Constant (.str x) _ _ :: r => (strsOf r).map (x :: ·)
  | _ :: _ => none
theorem pa_strs {X : Cx} : ∀ {es : List Expr} {xs : List Str}, strsOf es = some xs → PA X es (fun _ H Q => Q (xs.map V.str) H)
  | [], xs, h => by
    have e : [] = xs := Option.some.inj h
    subst e
    exact pa_nil
  | e :: r, xs, h => by
    unfold strsOf at h
    split at h
    · rename_i h0
      cases h0
    · rename_i x j pos r' h0
      cases h0
      cases hr : strsOf r with
      | none => rw [hr] at h; cases h
      | some ms =>
        rw [hr] at h
        have e : x :: ms = xs := Option.some.inj h
        subst e
        exact pa_cons pe_str (pa_strs hr)
    · cases h
theorem bt_ValueError : bootBuiltins "ValueError" = some (.type "ValueError") := by decide +kernel
end L2

namespace Sq
/-! Mathematics: which numbers to 10000 are two, three, four squares; by sets of bits -/
/-- shifts of one set of bits -/
def shifts (b : Nat) : List Nat → Nat
  | [] => 0
  | n :: r => Nat.lor (Nat.shiftLeft b n) (shifts b r)
def sqs : Nat → List Nat
  | 0 => [0]
  | n + 1 => ((n + 1) * (n + 1)) :: sqs n
def b1 : Nat := shifts 1 (sqs 100)
def b2 : Nat := shifts b1 (sqs 100)
def b3 : Nat := shifts b2 (sqs 100)
def b4 : Nat := shifts b3 (sqs 100)
end Sq

namespace Sq
end Sq

namespace Sq
/-- the ways of a number in two squares, in their order -/
def IsPairs (n : Nat) (ps : List (Nat × Nat)) : Prop := ps.Pairwise (fun x y => x.1 < y.1) ∧ ∀ a b, (a, b) ∈ ps ↔ a ≤ b ∧ a * a + b * b = n
theorem lt_sorted_ext : ∀ {a b : List (Nat × Nat)}, a.Pairwise (fun x y => x.1 < y.1) → b.Pairwise (fun x y => x.1 < y.1) → (∀ x, x ∈ a ↔ x ∈ b) → a = b
  | [], [], _, _, _ => rfl
  | [], y :: b, _, _, h => absurd ((h y).mpr List.mem_cons_self) (by simp)
  | x :: a, [], _, _, h => absurd ((h x).mp List.mem_cons_self) (by simp)
  | x :: a, y :: b, ha, hb, h => by
    rw [List.pairwise_cons] at ha hb
    have exy : x = y := by
      rcases List.mem_cons.mp ((h x).mp List.mem_cons_self) with z | z
      · exact z
      · rcases List.mem_cons.mp ((h y).mpr List.mem_cons_self) with w | w
        · exact w.symm
        · have h1 := hb.1 x z
          have h2 := ha.1 y w
          omega
    subst exy
    congr 1
    refine lt_sorted_ext ha.2 hb.2 fun z => ⟨fun hz => ?_, fun hz => ?_⟩
    · rcases List.mem_cons.mp ((h z).mp (List.mem_cons_of_mem _ hz)) with w | w
      · subst w
        exact absurd (ha.1 z hz) (Nat.lt_irrefl _)
      · exact w
    · rcases List.mem_cons.mp ((h z).mpr (List.mem_cons_of_mem _ hz)) with w | w
      · subst w
        exact absurd (hb.1 z hz) (Nat.lt_irrefl _)
      · exact w
theorem IsPairs.unique {n : Nat} {ps qs : List (Nat × Nat)} (h : IsPairs n ps) (g : IsPairs n qs) : ps = qs :=
  lt_sorted_ext h.1 g.1 fun x => by
    obtain ⟨a, b⟩ := x
    rw [h.2, g.2]
end Sq

namespace Tx
open PySem PySem.Builtin PySem.Builtin.Str PySem.StrLaws PySem.NumText
/-! Mathematics of the texts: figures, cuts at a text, what is written -/
abbrev cs (z : Str) : List Nat := z.cps.toList
theorem cs_ext {a b : Str} (h : cs a = cs b) : a = b := Str.ext' (Array.toList_inj.mp h)
theorem cs_app (a b : Str) : cs (a ++ b) = cs a ++ cs b := by simp [cs, Str.cps_append]
theorem cs_len (z : Str) : (cs z).length = z.length := by simp [Str.length]
def fig (c : Nat) : Bool := decide (48 ≤ c) && decide (c ≤ 57)
def sFig : Str := "0123456789"
def sEq : Str := " = "
def sPlus : Str := " + "
def sSq : Str := "^2"
theorem cs_sFig : sFig = ⟨#[48, 49, 50, 51, 52, 53, 54, 55, 56, 57]⟩ := by decide +kernel
theorem cs_sEq : sEq = ⟨#[32, 61, 32]⟩ := by decide +kernel
theorem cs_sPlus : sPlus = ⟨#[32, 43, 32]⟩ := by decide +kernel
theorem cs_sSq : sSq = ⟨#[94, 50]⟩ := by decide +kernel
theorem goes_fig (c : Nat) : sFig.cps.contains c = fig c := by
  rw [cs_sFig, Bool.eq_iff_iff]
  simp [fig]
  omega
theorem goes_fun : sFig.cps.contains = fig := funext goes_fig
/-! ### strip -/
theorem takeWhile_all {p : Nat → Bool} : ∀ {l : List Nat}, l.all p = true → l.takeWhile p = l
  | [], _ => rfl
  | a :: r, h => by
    rw [List.all_cons, Bool.and_eq_true] at h
    rw [List.takeWhile_cons, if_pos h.1, takeWhile_all h.2]
theorem takeWhile_lt {p : Nat → Bool} : ∀ {l : List Nat}, l.all p = false → (l.takeWhile p).length < l.length
  | [], h => by cases h
  | a :: r, h => by
    rw [List.takeWhile_cons]
    cases ha : p a with
    | false => simp
    | true =>
      rw [List.all_cons, ha, Bool.true_and] at h
      have := takeWhile_lt h
      simp
      omega
theorem drop_takeWhile {p : Nat → Bool} : ∀ {l : List Nat}, l.all p = false → (l.drop (l.takeWhile p).length).all p = false
  | [], h => by cases h
  | a :: r, h => by
    rw [List.takeWhile_cons]
    cases ha : p a with
    | false => simp [ha]
    | true =>
      rw [List.all_cons, ha, Bool.true_and] at h
      simpa using drop_takeWhile h
theorem strip_fig (z : Str) : decide (Txt.stripChars z sFig = Str.empty) = (cs z).all fig := by
  have hl := cs_len z
  have hlen : ∀ a b, (strSub z a b).length = ((cs z).drop a |>.take (b - a)).length := fun a b => by rw [← cs_len, ← strSub_toList]
  unfold Txt.stripChars Txt.stripBy stripSame stripped stripLo stripHi
  rw [goes_fun]
  simp only [if_true]
  cases h : (cs z).all fig with
  | true =>
    rw [decide_eq_true_iff, takeWhile_all h]
    split
    · rename_i hc
      rw [Bool.and_eq_true] at hc
      have h0 : (cs z).length = 0 := by simpa using hc.1
      apply cs_ext
      rw [List.length_eq_zero_iff.mp h0]
      rfl
    · apply cs_ext
      rw [cs, strSub_toList, List.drop_length]
      simp
      rfl
  | false =>
    rw [decide_eq_false_iff_not]
    have h1 := takeWhile_lt h
    have h2 := takeWhile_lt (l := ((cs z).drop ((cs z).takeWhile fig).length).reverse) (p := fig) (by
      have := drop_takeWhile h
      rw [List.all_reverse]
      exact this)
    rw [List.length_reverse, List.length_drop] at h2
    intro e
    have he := congrArg Str.length e
    have z0 : Str.empty.length = 0 := rfl
    rw [z0] at he
    split at he
    · omega
    · rw [hlen, List.length_take, List.length_drop] at he
      unfold cs at h1 h2 hl he
      omega
/-! ### figures and numbers -/
theorem val_snoc (l : List Nat) (c : Nat) : digitsVal (l ++ [c]) = digitsVal l * 10 + (c - 48) := by
  unfold digitsVal
  rw [List.foldl_append]
  rfl
theorem fold_ge : ∀ (l : List Nat) (a : Nat), a ≤ l.foldl (fun acc c => acc * 10 + (c - 48)) a
  | [], a => Nat.le_refl _
  | c :: l, a => Nat.le_trans (show a ≤ a * 10 + (c - 48) by omega) (fold_ge l _)
theorem val_pos {c : Nat} {l : List Nat} (h : 49 ≤ c) : 0 < digitsVal (c :: l) := by
  have := fold_ge l (0 * 10 + (c - 48))
  show 0 < l.foldl (fun acc c => acc * 10 + (c - 48)) (0 * 10 + (c - 48))
  omega
theorem fold_lt : ∀ (l : List Nat) (a : Nat), l.all fig = true → l.foldl (fun acc c => acc * 10 + (c - 48)) a < (a + 1) * 10 ^ l.length
  | [], a, _ => by simp
  | c :: l, a, h => by
    rw [List.all_cons, Bool.and_eq_true] at h
    have hc : 48 ≤ c ∧ c ≤ 57 := by simpa [fig] using h.1
    have ih := fold_lt l (a * 10 + (c - 48)) h.2
    rw [List.foldl_cons, List.length_cons, Nat.pow_succ]
    refine Nat.lt_of_lt_of_le ih ?_
    rw [Nat.mul_comm (10 ^ l.length) 10, ← Nat.mul_assoc]
    exact Nat.mul_le_mul_right _ (by omega)
theorem val_lt {l : List Nat} (h : l.all fig = true) : digitsVal l < 10 ^ l.length := by
  have := fold_lt l 0 h
  simpa [digitsVal] using this
/-- without a needless nought -/
def okN : List Nat → Bool
  | [] => false
  | [_] => true
  | c :: _ => c != 48
theorem okN_snoc {a : Nat} {l : List Nat} {c : Nat} (h : okN ((a :: l) ++ [c]) = true) : 49 ≤ a ∨ a < 48 := by
  have h' : okN (a :: (l ++ [c])) = true := h
  cases hl : l ++ [c] with
  | nil => simp at hl
  | cons b r =>
    rw [hl] at h'
    have : (a != 48) = true := h'
    have : a ≠ 48 := by simpa using this
    omega
def digs (n : Nat) : List Nat := (Nat.toDigits 10 n).map Char.toNat
theorem digs_one : ∀ d : Nat, d < 10 → digs d = [d + 48] := by decide
theorem digs_val : ∀ (k : Nat) (l : List Nat), l.length = k → l.all fig = true → okN l = true → digs (digitsVal l) = l
  | 0, l, hk, _, ho => by
    rw [List.length_eq_zero_iff.mp hk] at ho
    cases ho
  | k + 1, l, hk, hf, ho => by
    have hne : l ≠ [] := by intro e; rw [e] at hk; cases hk
    have es : l = l.dropLast ++ [l.getLast hne] := (List.dropLast_concat_getLast hne).symm
    generalize hd : l.dropLast = d at es
    generalize hc : l.getLast hne = c at es
    have hf' : d.all fig = true ∧ fig c = true := by
      rw [es, List.all_append, Bool.and_eq_true] at hf
      exact ⟨hf.1, by simpa using hf.2⟩
    have hcc : 48 ≤ c ∧ c ≤ 57 := by simpa [fig] using hf'.2
    rw [es, val_snoc]
    cases d with
    | nil =>
      show digs (0 * 10 + (c - 48)) = [c]
      rw [Nat.zero_mul, Nat.zero_add, digs_one (c - 48) (by omega)]
      congr 1
      omega
    | cons a r =>
      have ha : 49 ≤ a := by
        have h1 := okN_snoc (es ▸ ho)
        have h2 : 48 ≤ a ∧ a ≤ 57 := by
          have := hf'.1
          rw [List.all_cons, Bool.and_eq_true] at this
          simpa [fig] using this.1
        omega
      have hlen : (a :: r).length = k := by
        have := congrArg List.length es
        rw [hk, List.length_append] at this
        simpa using this.symm
      have hok : okN (a :: r) = true := by
        cases r with
        | nil => rfl
        | cons b t =>
          show (a != 48) = true
          simpa using (by omega : a ≠ 48)
      have ih := digs_val k (a :: r) hlen hf'.1 hok
      have hp := val_pos (l := r) ha
      have t : Nat.toDigits 10 (digitsVal (a :: r)) ++ Nat.toDigits 10 (c - 48) = Nat.toDigits 10 (10 * digitsVal (a :: r) + (c - 48)) := Nat.toDigits_append_toDigits (by decide) hp (by omega)
      have e1 := digs_one (c - 48) (by omega)
      unfold digs at ih e1 ⊢
      rw [Nat.mul_comm, ← t, List.map_append, ih, e1]
      congr 2
      omega
/-- the needless noughts gone -/
theorem val_short : ∀ (l : List Nat), l ≠ [] → l.all fig = true → ∃ m, digitsVal m = digitsVal l ∧ m.all fig = true ∧ okN m = true ∧ m.length ≤ l.length ∧ (okN l = false → m.length < l.length)
  | [], h, _ => absurd rfl h
  | [c], _, hf => ⟨[c], rfl, hf, rfl, Nat.le_refl _, fun h => by cases h⟩
  | a :: b :: r, _, hf => by
    by_cases ha : a = 48
    · subst ha
      have hf' : (b :: r).all fig = true := by
        rw [List.all_cons, Bool.and_eq_true] at hf
        exact hf.2
      obtain ⟨m, h1, h2, h3, h4, _⟩ := val_short (b :: r) (by simp) hf'
      refine ⟨m, ?_, h2, h3, ?_, fun _ => ?_⟩
      · rw [h1]
        show (b :: r).foldl (fun acc c => acc * 10 + (c - 48)) 0 = (b :: r).foldl (fun acc c => acc * 10 + (c - 48)) (0 * 10 + (48 - 48))
        rfl
      · rw [List.length_cons]; omega
      · rw [List.length_cons]; omega
    · refine ⟨a :: b :: r, rfl, hf, ?_, Nat.le_refl _, fun h => ?_⟩
      · show (a != 48) = true
        simpa using ha
      · have h' : (a != 48) = false := h
        simp at h'
        exact absurd h' ha
theorem digs_iff {l : List Nat} (hne : l ≠ []) (hf : l.all fig = true) : digs (digitsVal l) = l ↔ okN l = true := by
  constructor
  · intro e
    cases h : okN l with
    | true => rfl
    | false =>
      obtain ⟨m, h1, h2, h3, _, h5⟩ := val_short l hne hf
      have e2 := digs_val m.length m rfl h2 h3
      rw [h1, e] at e2
      have := h5 h
      rw [e2] at this
      exact absurd this (Nat.lt_irrefl _)
  · exact digs_val l.length l rfl hf
theorem cs_num (m : Nat) : cs (Str.ofString (toString ((m : Nat) : Int))) = digs m := PySem.W.KIN.signs_num m
/-- the number that a text writes -/
def count (z : Str) : Option Int := if z.length = 0 ∨ 5 < z.length ∨ (cs z).all fig = false ∨ okN (cs z) = false then none else some ((digitsVal (cs z) : Nat) : Int)
/-- .. to 10000 -/
def numOf (z : Str) : Option Int := match count z with
  | some n => if n ≤ 10000 then some n else none
  | none => none
theorem count_some {z : Str} {n : Int} (h : count z = some n) : 0 ≤ n ∧ n < 100000 ∧ Str.ofString (toString n) = z ∧ (cs z).all fig = true ∧ n = ((digitsVal (cs z) : Nat) : Int) := by
  unfold count at h
  split at h
  · cases h
  · rename_i hc
    have e : ((digitsVal (cs z) : Nat) : Int) = n := Option.some.inj h
    subst e
    simp only [not_or, Nat.not_lt, Bool.not_eq_false] at hc
    obtain ⟨h1, h2, h3, h4⟩ := hc
    have hne : cs z ≠ [] := fun e => h1 (by rw [← cs_len, e]; rfl)
    refine ⟨by omega, ?_, cs_ext ?_, h3, rfl⟩
    · have := val_lt h3
      have h5 : 10 ^ (cs z).length ≤ 10 ^ 5 := Nat.pow_le_pow_right (by decide) (by rw [cs_len]; exact h2)
      omega
    · rw [cs_num]
      exact (digs_iff hne h3).mpr h4
/-- the program's own look at it -/
theorem num_iff {z : Str} (h0 : z.length ≠ 0) (h5 : z.length ≤ 5) (hf : (cs z).all fig = true) :
    numOf z = if ((digitsVal (cs z) : Nat) : Int) ≤ 10000 ∧ Str.ofString (toString ((digitsVal (cs z) : Nat) : Int)) = z then some ((digitsVal (cs z) : Nat) : Int) else none := by
  have hne : cs z ≠ [] := fun e => h0 (by rw [← cs_len, e]; rfl)
  have key : Str.ofString (toString ((digitsVal (cs z) : Nat) : Int)) = z ↔ okN (cs z) = true := by
    rw [← digs_iff hne hf]
    constructor
    · intro e
      rw [← cs_num, e]
    · intro e
      apply cs_ext
      rw [cs_num, e]
  unfold numOf count
  by_cases hk : okN (cs z) = true
  · have e := key.mpr hk
    rw [if_neg (by simp [h0, hk, hf]; omega)]
    dsimp only
    by_cases hn : ((digitsVal (cs z) : Nat) : Int) ≤ 10000
    · rw [if_pos hn, if_pos ⟨hn, e⟩]
    · rw [if_neg hn, if_neg (fun q => hn q.1)]
  · have hk' : okN (cs z) = false := by simpa using hk
    rw [if_pos (.inr (.inr (.inr hk'))), if_neg (fun q => hk (key.mp q.2))]
theorem num_none {z : Str} (h : z.length = 0 ∨ 5 < z.length ∨ (cs z).all fig = false) : numOf z = none := by
  unfold numOf count
  rw [if_pos (by rcases h with h | h | h <;> simp [h])]
end Tx
namespace Tx
open PySem PySem.Builtin PySem.Builtin.Str PySem.StrLaws PySem.NumText
/-! ### cuts at a text of more than one sign -/
theorem kind_pos (x : Str) : 1 ≤ Builtin.Str.strKind x := by
  unfold Builtin.Str.strKind
  split
  · decide
  · split <;> decide
theorem kind_sEq : Builtin.Str.strKind sEq = 1 := by rw [cs_sEq]; simp [Builtin.Str.strKind]
theorem kind_sPlus : Builtin.Str.strKind sPlus = 1 := by rw [cs_sPlus]; simp [Builtin.Str.strKind]
/-- the cuts -/
theorem split_cuts (x y : Str) (hy : 1 ≤ y.length) (hk : Builtin.Str.strKind y = 1) : ∃ cuts f, Txt.split x y = partsFrom x y.length 0 cuts ∧ ChainG x y x.length 0 cuts f ∧ ∀ k, f ≤ k → ¬ At x y x.length k := by
  obtain ⟨f, hG, hn⟩ := occ_tight x y hy
  have none_of : (∀ i, ¬ At x y x.length i) → Txt.split x y = [x] → ∃ cuts f, Txt.split x y = partsFrom x y.length 0 cuts ∧ ChainG x y x.length 0 cuts f ∧ ∀ k, f ≤ k → ¬ At x y x.length k := fun h e =>
    ⟨[], 0, by rw [e]; show [x] = [strSub x 0 x.length]; rw [sub_whole], rfl, fun k _ => h k⟩
  by_cases h1 : (decide (x.length < y.length) || decide (Builtin.Str.strKind x < Builtin.Str.strKind y)) = true
  · refine none_of (fun i hi => ?_) (by unfold Txt.split; rw [if_pos h1])
    rw [Bool.or_eq_true, decide_eq_true_eq, decide_eq_true_eq] at h1
    have := kind_pos x
    have := hi.1
    omega
  · by_cases h2 : (occurrences x y 0 x.length (x.length + 1)).isEmpty = true
    · have e0 : occurrences x y 0 x.length (x.length + 1) = [] := List.isEmpty_iff.mp h2
      rw [e0] at hG
      have ef : f = 0 := hG
      exact none_of (fun i => hn i (by omega)) (by unfold Txt.split; rw [if_neg h1, if_pos h2])
    · exact ⟨_, f, by unfold Txt.split; rw [if_neg h1, if_neg h2, partsBetween_eq], hG, hn⟩
theorem parts_len (x : Str) (w : Nat) : ∀ (a : Nat) (cuts : List Nat), (partsFrom x w a cuts).length = cuts.length + 1
  | _, [] => rfl
  | a, c :: r => by
    show (partsFrom x w (c + w) r).length + 1 = _
    rw [parts_len x w (c + w) r]
    rfl
theorem chainG_len {x y : Str} (hy : 1 ≤ y.length) : ∀ {a : Nat} {cuts : List Nat} {f : Nat}, ChainG x y x.length a cuts f → a ≤ x.length → cuts.length + a ≤ x.length
  | a, [], f, _, h => by simpa using h
  | a, c :: r, f, h, ha => by
    have := chainG_len hy h.2.2.2 (h.2.1.1)
    have h1 := h.1
    rw [List.length_cons]
    omega
theorem split_len (x y : Str) (hy : 1 ≤ y.length) (hk : Builtin.Str.strKind y = 1) : (Txt.split x y).length ≤ x.length + 1 := by
  obtain ⟨cuts, f, e, hG, _⟩ := split_cuts x y hy hk
  have := chainG_len hy hG (Nat.zero_le _)
  rw [e, parts_len]
  omega
theorem between_len (x y : Str) (hy : 1 ≤ y.length) : (partsBetween x (occurrences x y 0 x.length (x.length + 1)) y.length).length ≤ x.length + 1 := by
  obtain ⟨f, hG, _⟩ := occ_tight x y hy
  have := chainG_len hy hG (Nat.zero_le _)
  rw [partsBetween_eq, parts_len]
  omega
/-- at the first place -/
theorem partition_of {x y : Str} : (Txt.partition x y = (x, Str.empty, Str.empty) ∧ ∀ i, ¬ At x y x.length i) ∨
    ∃ i, Txt.partition x y = (strSub x 0 i, y, strSub x (i + y.length) x.length) ∧ At x y x.length i ∧ ∀ k, k < i → ¬ At x y x.length k := by
  rcases occ_head x y 1 (Nat.le_refl 1) with ⟨h0, hn⟩ | ⟨i, r, h0, hi, hn⟩
  · exact .inl ⟨by unfold Txt.partition; rw [h0], hn⟩
  · exact .inr ⟨i, by unfold Txt.partition; rw [h0], hi, hn⟩
theorem mem_sub {x : Str} {a k c : Nat} (ha : a ≤ k) (hk : k < x.length) (h : (cs x)[k]? = some c) : c ∈ cs (strSub x a x.length) := by
  rw [cs, strSub_toList]
  refine List.mem_of_getElem? (i := k - a) ?_
  rw [List.getElem?_take_of_lt (by omega), List.getElem?_drop]
  rw [show a + (k - a) = k by omega]
  exact h
theorem at_code {x y : Str} {i j c : Nat} (h : At x y x.length i) (hc : (cs y)[j]? = some c) : (cs x)[i + j]? = some c := by
  have h2 := h.2
  rw [subAt_eq] at h2
  have e : (x.cps.toList.drop i).take y.length = y.cps.toList := eq_of_beq h2
  have hj : j < y.length := by
    have := (List.getElem?_eq_some_iff.mp hc).1
    rw [cs_len] at this
    exact this
  unfold cs at hc ⊢
  rw [← e, List.getElem?_take_of_lt hj, List.getElem?_drop] at hc
  exact hc
/-- the two sides at the equals sign -/
theorem sides (x : Str) : (Txt.split x sEq = [x] ∧ Txt.partition x sEq = (x, Str.empty, Str.empty)) ∨
    (∃ h t, Txt.split x sEq = [h, t] ∧ Txt.partition x sEq = (h, sEq, t) ∧ x = h ++ sEq ++ t ∧ h.length ≤ x.length ∧ t.length ≤ x.length) ∨
    ((Txt.split x sEq).length ≠ 1 ∧ (Txt.split x sEq).length ≠ 2 ∧ ∃ h t, Txt.partition x sEq = (h, sEq, t) ∧ 61 ∈ cs t ∧ h.length ≤ x.length ∧ t.length ≤ x.length) := by
  have hy : sEq.length = 3 := by rw [cs_sEq]; rfl
  have hk : Builtin.Str.strKind sEq = 1 := kind_sEq
  obtain ⟨cuts, f, e, hG, hn⟩ := split_cuts x sEq (by omega) hk
  have sl : ∀ a b, (strSub x a b).length ≤ x.length := fun a b => by
    rw [← cs_len, cs, strSub_toList, List.length_take, List.length_drop]
    have := cs_len x
    unfold cs at this
    omega
  rcases partition_of (x := x) (y := sEq) with ⟨hp, hno⟩ | ⟨i, hp, hi, hf⟩
  · cases cuts with
    | nil =>
      refine .inl ⟨?_, hp⟩
      rw [e]
      show [strSub x 0 x.length] = [x]
      rw [sub_whole]
    | cons c r => exact absurd hG.2.1 (hno c)
  · cases cuts with
    | nil =>
      have ef : f = 0 := hG
      exact absurd hi (hn i (by omega))
    | cons c r =>
      have hci : c = i := by
        rcases Nat.lt_trichotomy c i with q | q | q
        · exact absurd hG.2.1 (hf c q)
        · exact q
        · exact absurd hi (hG.2.2.1 i (Nat.zero_le _) q)
      subst hci
      cases r with
      | nil =>
        refine .inr (.inl ⟨strSub x 0 c, strSub x (c + sEq.length) x.length, e, hp, ?_, sl _ _, sl _ _⟩)
        have q := sub_cat x sEq (Nat.zero_le c) hi
        rw [sub_whole] at q
        exact q.symm
      | cons d r =>
        refine .inr (.inr ⟨by rw [e, parts_len]; simp, by rw [e, parts_len]; simp, strSub x 0 c, strSub x (c + sEq.length) x.length, hp, ?_, sl _ _, sl _ _⟩)
        obtain ⟨h1, h2, _⟩ := hG.2.2.2
        have hc := at_code (j := 1) (c := 61) h2 (by rw [cs_sEq]; rfl)
        have hd := h2.1
        exact mem_sub (k := d + 1) (by omega) (by omega) hc
/-! ### a part: its end, the rest of it -/
/-- w[:-2] -/
def bas (w : Str) : Str := ⟨((cs w).take (w.length - 2)).toArray⟩
/-- w[-2:] -/
def end2 (w : Str) : Str := ⟨((cs w).drop (w.length - 2)).toArray⟩
theorem bas_cat (w : Str) : bas w ++ end2 w = w := by
  apply cs_ext
  rw [cs_app]
  show (cs w).take (w.length - 2) ++ (cs w).drop (w.length - 2) = cs w
  exact List.take_append_drop _ _
theorem ends_iff (w : Str) : Txt.endswith w sSq = decide (end2 w = sSq) := by
  have hy : sSq.length = 2 := by rw [cs_sSq]; rfl
  have hl := cs_len w
  rw [Bool.eq_iff_iff, decide_eq_true_eq]
  unfold Txt.endswith
  rw [Bool.and_eq_true, decide_eq_true_eq, hy, subAt_eq, beq_iff_eq, hy]
  constructor
  · rintro ⟨h1, h2⟩
    apply cs_ext
    rw [← show sSq.cps.toList = cs sSq from rfl, ← h2]
    show (cs w).drop (w.length - 2) = _
    rw [List.take_of_length_le]
    rw [List.length_drop]
    unfold cs at hl
    omega
  · intro h
    have h' := congrArg cs h
    have h2 : (cs w).drop (w.length - 2) = cs sSq := h'
    have h3 := congrArg List.length h2
    rw [List.length_drop, hl, cs_len, hy] at h3
    refine ⟨by omega, ?_⟩
    rw [List.take_of_length_le (by rw [List.length_drop]; unfold cs at hl; omega)]
    exact h2
theorem bas_len (w : Str) : (bas w).length ≤ w.length := by
  rw [← cs_len, ← cs_len w]
  show ((cs w).take _).length ≤ _
  rw [List.length_take]
  omega
/-! ### what is written -/
def sumSq (ps : List Int) : Int := (ps.map fun p => p * p).sum
def wr (n : Int) (ps : List Int) : Str := Str.ofString (toString n) ++ sEq ++ Str.join sPlus (ps.map fun p => Str.ofString (toString p) ++ sSq)
/-- the numbers of the pieces, all of them or none -/
def nums (g : Str → Option Int) : List Str → Option (List Int)
  | [] => some []
  | w :: r => match g (bas w), nums g r with
    | some n, some ns => some (n :: ns)
    | _, _ => none
def riseB : List Int → Bool
  | [] => true
  | [_] => true
  | a :: b :: r => decide (a ≤ b) && riseB (b :: r)
/-- the law's own reading: head, the tail's words -/
def lawIn (x : Str) : Option (Int × List Int) := match Txt.partition x sEq with
  | (h, s, t) => if s = Str.empty then none else match count h with
    | none => none
    | some n => if 4 < (Txt.split t sPlus).length ∨ ((Txt.split t sPlus).all fun w => decide (end2 w = sSq)) = false then none else match nums count (Txt.split t sPlus) with
      | none => none
      | some ps => if riseB ps = true ∧ sumSq ps = n ∧ n < 10001 then some (n, ps) else none
/-- the program's -/
def readT (n : Int) (t : Str) : Option (Int × List Int) := if 4 < (Txt.split t sPlus).length ∨ ((Txt.split t sPlus).all fun w => decide (end2 w = sSq)) = false then none else match nums numOf (Txt.split t sPlus) with
  | none => none
  | some ps => if riseB ps = true ∧ sumSq ps = n then some (n, ps) else none
def readX (x : Str) : Option (Int × List Int) := match Txt.split x sEq with
  | [h, t] => (match numOf h with
    | none => none
    | some n => readT n t)
  | _ => none
theorem num_some {z : Str} {n : Int} (h : numOf z = some n) : count z = some n ∧ n ≤ 10000 := by
  unfold numOf at h
  split at h
  · rename_i m hm
    split at h
    · rename_i hle
      cases h
      exact ⟨hm, hle⟩
    · cases h
  · cases h
theorem num_of {z : Str} {n : Int} (h : count z = some n) (hn : n ≤ 10000) : numOf z = some n := by
  unfold numOf
  rw [h]
  exact if_pos hn
theorem nums_count : ∀ {ws : List Str} {ps : List Int}, nums numOf ws = some ps → nums count ws = some ps
  | [], ps, h => h
  | w :: r, ps, h => by
    unfold nums at h ⊢
    split at h
    · rename_i n ns h1 h2
      rw [(num_some h1).1, nums_count h2]
      exact h
    · cases h
theorem nums_num : ∀ {ws : List Str} {ps : List Int}, nums count ws = some ps → (∀ p ∈ ps, p ≤ 10000) → nums numOf ws = some ps
  | [], ps, h, _ => h
  | w :: r, ps, h, hp => by
    unfold nums at h ⊢
    split at h
    · rename_i n ns h1 h2
      cases h
      rw [num_of h1 (hp n (List.mem_cons_self ..)), nums_num h2 fun p hm => hp p (List.mem_cons_of_mem _ hm)]
    · cases h
theorem nums_nonneg : ∀ {ws : List Str} {ps : List Int}, nums count ws = some ps → ∀ p ∈ ps, 0 ≤ p ∧ p < 100000
  | [], ps, h, p, hp => by
    cases h
    cases hp
  | w :: r, ps, h, p, hp => by
    unfold nums at h
    split at h
    · rename_i n ns h1 h2
      cases h
      rcases List.mem_cons.mp hp with rfl | hp
      · have := count_some h1
        exact ⟨this.1, this.2.1⟩
      · exact nums_nonneg h2 p hp
    · cases h
theorem mul_self_nn (p : Int) : 0 ≤ p * p := by
  rcases Int.le_total 0 p with h | h
  · exact Int.mul_nonneg h h
  · exact Int.mul_nonneg_of_nonpos_of_nonpos h h
theorem sumSq_cons (p : Int) (r : List Int) : sumSq (p :: r) = p * p + sumSq r := by simp [sumSq]
theorem sumSq_nonneg : ∀ ps : List Int, 0 ≤ sumSq ps
  | [] => by simp [sumSq]
  | p :: r => by
    have := sumSq_nonneg r
    have := mul_self_nn p
    rw [sumSq_cons]
    omega
theorem sumSq_le : ∀ {ps : List Int}, (∀ p ∈ ps, 0 ≤ p) → ∀ p ∈ ps, p ≤ sumSq ps
  | [], _, p, hp => by cases hp
  | q :: r, h, p, hp => by
    have e : sumSq (q :: r) = q * q + sumSq r := by simp [sumSq]
    have h1 := sumSq_nonneg r
    have h0 := h q (List.mem_cons_self ..)
    rcases List.mem_cons.mp hp with rfl | hp
    · have : p ≤ p * p := by
        by_cases q : 0 < p
        · have := Int.mul_le_mul_of_nonneg_left (show (1 : Int) ≤ p by omega) h0
          omega
        · have : p = 0 := by omega
          subst this
          decide
      omega
    · have := sumSq_le (fun x hx => h x (List.mem_cons_of_mem _ hx)) p hp
      have := Int.mul_nonneg h0 h0
      omega
/-- the pieces are the parts as they are written -/
theorem pieces_eq : ∀ {ws : List Str} {ps : List Int}, nums count ws = some ps → (ws.all fun w => decide (end2 w = sSq)) = true → ws = ps.map fun p => Str.ofString (toString p) ++ sSq
  | [], ps, h, _ => by
    cases h
    rfl
  | w :: r, ps, h, he => by
    unfold nums at h
    split at h
    · rename_i n ns h1 h2
      cases h
      rw [List.all_cons, Bool.and_eq_true, decide_eq_true_eq] at he
      rw [List.map_cons, ← pieces_eq h2 he.2]
      congr 1
      rw [(count_some h1).2.2.1, ← he.1]
      exact (bas_cat w).symm
    · cases h
theorem nums_len : ∀ {g : Str → Option Int} {ws : List Str} {ps : List Int}, nums g ws = some ps → ps.length = ws.length
  | _, [], ps, h => by
    cases h
    rfl
  | g, w :: r, ps, h => by
    unfold nums at h
    split at h
    · rename_i n ns h1 h2
      cases h
      rw [List.length_cons, List.length_cons, nums_len h2]
    · cases h
theorem num_codes {n : Int} (h0 : 0 ≤ n) : ∀ c ∈ cs (Str.ofString (toString n)), c ≠ 61 := by
  obtain ⟨m, rfl⟩ := Int.eq_ofNat_of_zero_le h0
  intro c hc
  rw [cs_num] at hc
  obtain ⟨ch, hch, e⟩ := List.mem_map.mp hc
  have := Nat.isDigit_of_mem_toDigits (by decide) (by decide) hch
  intro h
  rw [← e] at h
  have e2 : ch = '=' := Char.ext (UInt32.toNat_inj.mp h)
  rw [e2] at this
  exact absurd this (by decide)
theorem join_codes : ∀ {ps : List Int}, (∀ p ∈ ps, 0 ≤ p) → ∀ c ∈ cs (Str.join sPlus (ps.map fun p => Str.ofString (toString p) ++ sSq)), c ≠ 61
  | [], _, c, hc => by
    have : cs Str.empty = [] := rfl
    have hc' : c ∈ cs Str.empty := hc
    rw [this] at hc'
    cases hc'
  | [p], h, c, hc => by
    have hc' : c ∈ cs (Str.ofString (toString p) ++ sSq) := hc
    rw [cs_app, List.mem_append] at hc'
    rcases hc' with q | q
    · exact num_codes (h p (by simp)) c q
    · rw [cs_sSq] at q
      have : c = 94 ∨ c = 50 := by simpa [cs] using q
      omega
  | p :: q :: r, h, c, hc => by
    have hc' : c ∈ cs (Str.ofString (toString p) ++ sSq ++ sPlus ++ Str.join sPlus ((q :: r).map fun p => Str.ofString (toString p) ++ sSq)) := hc
    rw [cs_app, cs_app, cs_app, List.mem_append, List.mem_append, List.mem_append] at hc'
    rcases hc' with ((z | z) | z) | z
    · exact num_codes (h p (by simp)) c z
    · rw [cs_sSq] at z
      have : c = 94 ∨ c = 50 := by simpa [cs] using z
      omega
    · rw [cs_sPlus] at z
      have : c = 32 ∨ c = 43 ∨ c = 32 := by simpa [cs] using z
      omega
    · exact join_codes (fun x hx => h x (List.mem_cons_of_mem _ hx)) c z
theorem sEq_ne : ¬ sEq = Str.empty := by decide +kernel
/-- THE TWO READINGS ARE ONE -/
theorem read_eq (x : Str) : readX x = lawIn x := by
  unfold readX lawIn
  rcases sides x with ⟨e1, e2⟩ | ⟨h, t, e1, e2, _⟩ | ⟨n1, n2, h, t, e2, hm, _⟩
  · rw [e1, e2]
    dsimp only
    rw [if_pos rfl]
  · rw [e1, e2]
    dsimp only
    rw [if_neg sEq_ne]
    cases hc : count h with
    | none =>
      have : numOf h = none := by unfold numOf; rw [hc]
      rw [this]
    | some n =>
      dsimp only
      by_cases hn : n ≤ 10000
      · rw [num_of hc hn]
        dsimp only
        unfold readT
        split
        · rfl
        · cases hk : nums count (Txt.split t sPlus) with
          | none =>
            cases hk2 : nums numOf (Txt.split t sPlus) with
            | none => rfl
            | some ps => rw [nums_count hk2] at hk; cases hk
          | some ps =>
            dsimp only
            by_cases hg : riseB ps = true ∧ sumSq ps = n ∧ n < 10001
            · rw [if_pos hg, nums_num hk fun p hp => ?_]
              · exact if_pos ⟨hg.1, hg.2.1⟩
              · have := sumSq_le (fun p hp => (nums_nonneg hk p hp).1) p hp
                omega
            · rw [if_neg hg]
              cases hk2 : nums numOf (Txt.split t sPlus) with
              | none => rfl
              | some qs =>
                have e := nums_count hk2
                rw [hk] at e
                cases e
                exact if_neg fun q => hg ⟨q.1, q.2, by omega⟩
      · have : numOf h = none := by
          unfold numOf
          rw [hc]
          exact if_neg hn
        rw [this]
        dsimp only
        split
        · rfl
        · split
          · rfl
          · rw [if_neg (fun q => hn (by omega))]
  · rw [e2]
    dsimp only
    rw [if_neg sEq_ne]
    have hl : (match Txt.split x sEq with
      | [h, t] => (match numOf h with
        | none => none
        | some n => readT n t)
      | _ => none) = (none : Option (Int × List Int)) := by
      cases hs : Txt.split x sEq with
      | nil => rfl
      | cons a r =>
        cases r with
        | nil => rfl
        | cons b r =>
          cases r with
          | nil => rw [hs] at n2; exact absurd rfl n2
          | cons c r => rfl
    rw [hl]
    cases count h with
    | none => rfl
    | some n =>
      dsimp only
      split
      · rfl
      · rename_i hw
        cases hk : nums count (Txt.split t sPlus) with
        | none => rfl
        | some ps =>
          exfalso
          have hall : ((Txt.split t sPlus).all fun w => decide (end2 w = sSq)) = true := by
            cases hz : (Txt.split t sPlus).all fun w => decide (end2 w = sSq) with
            | true => rfl
            | false => exact absurd (.inr hz) hw
          have ep := pieces_eq hk hall
          have ej := join_split t sPlus
          rw [ep] at ej
          rw [← ej] at hm
          exact join_codes (fun p hp => (nums_nonneg hk p hp).1) 61 hm rfl
/-- what is read is what is written -/
theorem lawIn_some {x : Str} {n : Int} {ps : List Int} (h : lawIn x = some (n, ps)) : wr n ps = x ∧ 0 ≤ n ∧ n ≤ 10000 ∧ 1 ≤ ps.length ∧ ps.length ≤ 4 ∧ (∀ p ∈ ps, 0 ≤ p ∧ p ≤ 10000) ∧ riseB ps = true ∧ sumSq ps = n := by
  unfold lawIn at h
  rcases sides x with ⟨e1, e2⟩ | ⟨hh, t, e1, e2, ex, _⟩ | ⟨n1, n2, hh, t, e2, hm, _⟩
  · rw [e2] at h
    dsimp only at h
    rw [if_pos rfl] at h
    cases h
  · rw [e2] at h
    dsimp only at h
    rw [if_neg sEq_ne] at h
    cases hc : count hh with
    | none => rw [hc] at h; cases h
    | some m =>
      rw [hc] at h
      dsimp only at h
      split at h
      · cases h
      · rename_i hw
        have hall : ((Txt.split t sPlus).all fun w => decide (end2 w = sSq)) = true := by
          cases hz : (Txt.split t sPlus).all fun w => decide (end2 w = sSq) with
          | true => rfl
          | false => exact absurd (.inr hz) hw
        have h4 : ¬ 4 < (Txt.split t sPlus).length := fun z => hw (.inl z)
        cases hk : nums count (Txt.split t sPlus) with
        | none => rw [hk] at h; cases h
        | some qs =>
          rw [hk] at h
          dsimp only at h
          split at h
          · rename_i hg
            have e := Option.some.inj h
            have e3 : m = n := congrArg Prod.fst e
            have e4 : qs = ps := congrArg Prod.snd e
            subst e3
            subst e4
            have ep := pieces_eq hk hall
            have ej := join_split t sPlus
            have hl := nums_len hk
            obtain ⟨cuts, f, ec, _⟩ := split_cuts t sPlus (by rw [cs_sPlus]; decide) kind_sPlus
            have h1 : 1 ≤ (Txt.split t sPlus).length := by rw [ec, parts_len]; omega
            refine ⟨?_, (count_some hc).1, by omega, by omega, by omega, fun p hp => ?_, hg.1, hg.2.1⟩
            · unfold wr
              rw [← ep, ej, (count_some hc).2.2.1, ex]
            · have h5 := nums_nonneg hk p hp
              have h6 := sumSq_le (fun p hp => (nums_nonneg hk p hp).1) p hp
              omega
          · cases h
  · have e := read_eq x
    unfold readX at e
    have hl : (match Txt.split x sEq with
      | [h, t] => (match numOf h with
        | none => none
        | some n => readT n t)
      | _ => none) = (none : Option (Int × List Int)) := by
      cases hs : Txt.split x sEq with
      | nil => rfl
      | cons a r =>
        cases r with
        | nil => rfl
        | cons b r =>
          cases r with
          | nil => rw [hs] at n2; exact absurd rfl n2
          | cons c r => rfl
    rw [hl] at e
    unfold lawIn at e
    rw [h] at e
    cases e
theorem sub_len (x : Str) (a b : Nat) : (strSub x a b).length ≤ x.length := by
  rw [← cs_len, cs, strSub_toList, List.length_take, List.length_drop]
  have := cs_len x
  unfold cs at this
  omega
theorem parts_le (x : Str) (w : Nat) : ∀ (cuts : List Nat) (a : Nat), ∀ p ∈ partsFrom x w a cuts, p.length ≤ x.length
  | [], a, p, hp => by
    rw [List.mem_singleton.mp hp]
    exact sub_len x _ _
  | c :: r, a, p, hp => by
    rcases List.mem_cons.mp hp with rfl | hp
    · exact sub_len x _ _
    · exact parts_le x w r _ p hp
theorem split_le {x y : Str} (hy : 1 ≤ y.length) (hk : Builtin.Str.strKind y = 1) : ∀ p ∈ Txt.split x y, p.length ≤ x.length := by
  obtain ⟨cuts, f, e, _⟩ := split_cuts x y hy hk
  rw [e]
  exact parts_le x _ cuts 0
theorem nums_none {g : Str → Option Int} : ∀ {ws : List Str} {w : Str}, w ∈ ws → g (bas w) = none → nums g ws = none
  | [], w, h, _ => by cases h
  | v :: r, w, h, hg => by
    unfold nums
    rcases List.mem_cons.mp h with rfl | h
    · rw [hg]
    · rw [nums_none h hg]
      cases g (bas v) <;> rfl
theorem partition_len (x y : Str) : (Txt.partition x y).1.length ≤ x.length ∧ (Txt.partition x y).2.2.length ≤ x.length := by
  rcases partition_of (x := x) (y := y) with ⟨e, _⟩ | ⟨i, e, _⟩
  · rw [e]
    exact ⟨Nat.le_refl _, Nat.zero_le _⟩
  · rw [e]
    exact ⟨sub_len x _ _, sub_len x _ _⟩
end Tx

namespace Sq
open PySem L2
set_option maxHeartbeats 4000000
/-- the top's statement at a place -/
def top (i : Nat) : Stmt := PySem.Challenge.pw_squarefield_k08_written.main.body.getD i (.Pass ⟨0, 0, 0, 0⟩)
abbrev s_is_whole : Stmt := top 9
abbrev s_is_number : Stmt := top 10
abbrev s_refuse_no_number : Stmt := top 11
abbrev s_are_parts_of : Stmt := top 12
abbrev s_written : Stmt := top 16
abbrev s_are_few : Stmt := top 17
abbrev s_read : Stmt := top 18
abbrev s_read_parts : Stmt := top 19
abbrev s_read_part : Stmt := top 20
abbrev s_read_number : Stmt := top 21
abbrev s__law_cell_at : Stmt := top 23
abbrev s__law_draw : Stmt := top 24
abbrev s__law_count : Stmt := top 25
abbrev s__law_in : Stmt := top 26
abbrev s__law_refused : Stmt := top 27
abbrev s__law_right : Stmt := top 28
abbrev s__law_few : Stmt := top 29
abbrev s_law : Stmt := top 30
structure Adr where
  SquareError : Addr
  BadNumber : Addr
  BadPrime : Addr
  BadParts : Addr
  BadWalk : Addr
  BadText : Addr
structure Txt (K : PySem.W.Frag) (mg : Str → Option Value) (t : Adr) : Prop where
  z_ValueError : mg "ValueError" = none
  z_isinstance : mg "isinstance" = none
  z_int : mg "int" = none
  z_bool : mg "bool" = none
  z_str : mg "str" = none
  z_list : mg "list" = none
  z_tuple : mg "tuple" = none
  z_len : mg "len" = none
  z_all : mg "all" = none
  z_any : mg "any" = none
  z_sorted : mg "sorted" = none
  z_sum : mg "sum" = none
  z_range : mg "range" = none
  g_MOST_NUMBER : ∃ u, mg "MOST_NUMBER" = some (.int 10000 u)
  g_MOST_PARTS : ∃ u, mg "MOST_PARTS" = some (.int 4 u)
  g_FIGURES : ∃ u, mg "FIGURES" = some (.str "0123456789" u)
  m_SquareError : mg "SquareError" = some (.ref t.SquareError)
  m_BadNumber : mg "BadNumber" = some (.ref t.BadNumber)
  m_BadPrime : mg "BadPrime" = some (.ref t.BadPrime)
  m_BadParts : mg "BadParts" = some (.ref t.BadParts)
  m_BadWalk : mg "BadWalk" = some (.ref t.BadWalk)
  m_BadText : mg "BadText" = some (.ref t.BadText)
  nodup : ([t.SquareError, t.BadNumber, t.BadPrime, t.BadParts, t.BadWalk, t.BadText] : List Addr).Nodup
  k_BadText_BadNumber : PySem.W.kitOne K (.ref t.BadText) (.ref t.BadNumber) = some false
  k_BadText_BadPrime : PySem.W.kitOne K (.ref t.BadText) (.ref t.BadPrime) = some false
  k_BadText_BadParts : PySem.W.kitOne K (.ref t.BadText) (.ref t.BadParts) = some false
  k_BadText_BadWalk : PySem.W.kitOne K (.ref t.BadText) (.ref t.BadWalk) = some false
  k_BadText_BadText : PySem.W.kitOne K (.ref t.BadText) (.ref t.BadText) = some true
  k_BadText_ValueError : PySem.W.kitOne K (.ref t.BadText) (.type "ValueError") = some true
  x_BadText : PySem.W.excIn K t.BadText bmVE "ValueError.__new__" = true
  e_BadText : ExcCls K t.BadText
  w_BadText_SquareError : PySem.W.exmOne K (.ref t.BadText) (.ref t.SquareError) = some true
  h_is_whole : TopFn K mg "is_whole" s_is_whole ["value"]
  h_is_number : TopFn K mg "is_number" s_is_number ["value"]
  h_refuse_no_number : TopFn K mg "refuse_no_number" s_refuse_no_number ["value"]
  h_are_parts_of : TopFn K mg "are_parts_of" s_are_parts_of ["parts", "number"]
  h_written : TopFn K mg "written" s_written ["number", "parts"]
  h_are_few : TopFn K mg "are_few" s_are_few ["parts"]
  h_read : TopFn K mg "read" s_read ["text"]
  h_read_parts : TopFn K mg "read_parts" s_read_parts ["text"]
  h_read_part : TopFn K mg "read_part" s_read_part ["piece"]
  h_read_number : TopFn K mg "read_number" s_read_number ["figures"]
  h__law_cell_at : TopFn K mg "_law_cell_at" s__law_cell_at ["_law_script", "_law_k"]
  h__law_draw : TopFn K mg "_law_draw" s__law_draw ["_law_cell", "_law_k", "_law_many"]
  h__law_count : TopFn K mg "_law_count" s__law_count ["_law_text"]
  h__law_in : TopFn K mg "_law_in" s__law_in ["_law_text"]
  h__law_refused : TopFn K mg "_law_refused" s__law_refused ["_law_text"]
  h__law_right : TopFn K mg "_law_right" s__law_right ["_law_text"]
  h__law_few : TopFn K mg "_law_few" s__law_few []
  h_law : TopFn K mg "law" s_law ["_law_script"]
theorem txt_mk {K : PySem.W.Frag} {h : Heap} {mg : Str → Option Value} (X : K.In h) (G : h.Ns mainGlobals mg)
    {u_MOST_NUMBER : Tok}
    {u_MOST_PARTS : Tok}
    {u_FIGURES : Tok}
    {C_SquareError : Addr}
    {C_BadNumber : Addr}
    {C_BadPrime : Addr}
    {C_BadParts : Addr}
    {C_BadWalk : Addr}
    {C_BadText : Addr}
    {f_is_whole : Addr}
    {od_is_whole an_is_whole : Option Addr}
    {sl_is_whole : Array (Option Value)}
    {oc_is_whole kV_is_whole dc_is_whole pm_is_whole cd_is_whole ct_is_whole : Value}
    {f_is_number : Addr}
    {od_is_number an_is_number : Option Addr}
    {sl_is_number : Array (Option Value)}
    {oc_is_number kV_is_number dc_is_number pm_is_number cd_is_number ct_is_number : Value}
    {f_refuse_no_number : Addr}
    {od_refuse_no_number an_refuse_no_number : Option Addr}
    {sl_refuse_no_number : Array (Option Value)}
    {oc_refuse_no_number kV_refuse_no_number dc_refuse_no_number pm_refuse_no_number cd_refuse_no_number ct_refuse_no_number : Value}
    {f_are_parts_of : Addr}
    {od_are_parts_of an_are_parts_of : Option Addr}
    {sl_are_parts_of : Array (Option Value)}
    {oc_are_parts_of kV_are_parts_of dc_are_parts_of pm_are_parts_of cd_are_parts_of ct_are_parts_of : Value}
    {f_written : Addr}
    {od_written an_written : Option Addr}
    {sl_written : Array (Option Value)}
    {oc_written kV_written dc_written pm_written cd_written ct_written : Value}
    {f_are_few : Addr}
    {od_are_few an_are_few : Option Addr}
    {sl_are_few : Array (Option Value)}
    {oc_are_few kV_are_few dc_are_few pm_are_few cd_are_few ct_are_few : Value}
    {f_read : Addr}
    {od_read an_read : Option Addr}
    {sl_read : Array (Option Value)}
    {oc_read kV_read dc_read pm_read cd_read ct_read : Value}
    {f_read_parts : Addr}
    {od_read_parts an_read_parts : Option Addr}
    {sl_read_parts : Array (Option Value)}
    {oc_read_parts kV_read_parts dc_read_parts pm_read_parts cd_read_parts ct_read_parts : Value}
    {f_read_part : Addr}
    {od_read_part an_read_part : Option Addr}
    {sl_read_part : Array (Option Value)}
    {oc_read_part kV_read_part dc_read_part pm_read_part cd_read_part ct_read_part : Value}
    {f_read_number : Addr}
    {od_read_number an_read_number : Option Addr}
    {sl_read_number : Array (Option Value)}
    {oc_read_number kV_read_number dc_read_number pm_read_number cd_read_number ct_read_number : Value}
    {f__law_cell_at : Addr}
    {od__law_cell_at an__law_cell_at : Option Addr}
    {sl__law_cell_at : Array (Option Value)}
    {oc__law_cell_at kV__law_cell_at dc__law_cell_at pm__law_cell_at cd__law_cell_at ct__law_cell_at : Value}
    {f__law_draw : Addr}
    {od__law_draw an__law_draw : Option Addr}
    {sl__law_draw : Array (Option Value)}
    {oc__law_draw kV__law_draw dc__law_draw pm__law_draw cd__law_draw ct__law_draw : Value}
    {f__law_count : Addr}
    {od__law_count an__law_count : Option Addr}
    {sl__law_count : Array (Option Value)}
    {oc__law_count kV__law_count dc__law_count pm__law_count cd__law_count ct__law_count : Value}
    {f__law_in : Addr}
    {od__law_in an__law_in : Option Addr}
    {sl__law_in : Array (Option Value)}
    {oc__law_in kV__law_in dc__law_in pm__law_in cd__law_in ct__law_in : Value}
    {f__law_refused : Addr}
    {od__law_refused an__law_refused : Option Addr}
    {sl__law_refused : Array (Option Value)}
    {oc__law_refused kV__law_refused dc__law_refused pm__law_refused cd__law_refused ct__law_refused : Value}
    {f__law_right : Addr}
    {od__law_right an__law_right : Option Addr}
    {sl__law_right : Array (Option Value)}
    {oc__law_right kV__law_right dc__law_right pm__law_right cd__law_right ct__law_right : Value}
    {f__law_few : Addr}
    {od__law_few an__law_few : Option Addr}
    {sl__law_few : Array (Option Value)}
    {oc__law_few kV__law_few dc__law_few pm__law_few cd__law_few ct__law_few : Value}
    {f_law : Addr}
    {od_law an_law : Option Addr}
    {sl_law : Array (Option Value)}
    {oc_law kV_law dc_law pm_law cd_law ct_law : Value}
    (z_ValueError : PySem.W.nsIn K mainGlobals "ValueError" = some none)
    (z_isinstance : PySem.W.nsIn K mainGlobals "isinstance" = some none)
    (z_int : PySem.W.nsIn K mainGlobals "int" = some none)
    (z_bool : PySem.W.nsIn K mainGlobals "bool" = some none)
    (z_str : PySem.W.nsIn K mainGlobals "str" = some none)
    (z_list : PySem.W.nsIn K mainGlobals "list" = some none)
    (z_tuple : PySem.W.nsIn K mainGlobals "tuple" = some none)
    (z_len : PySem.W.nsIn K mainGlobals "len" = some none)
    (z_all : PySem.W.nsIn K mainGlobals "all" = some none)
    (z_any : PySem.W.nsIn K mainGlobals "any" = some none)
    (z_sorted : PySem.W.nsIn K mainGlobals "sorted" = some none)
    (z_sum : PySem.W.nsIn K mainGlobals "sum" = some none)
    (z_range : PySem.W.nsIn K mainGlobals "range" = some none)
    (g_MOST_NUMBER : PySem.W.nsIn K mainGlobals "MOST_NUMBER" = some (some (.int 10000 u_MOST_NUMBER)))
    (g_MOST_PARTS : PySem.W.nsIn K mainGlobals "MOST_PARTS" = some (some (.int 4 u_MOST_PARTS)))
    (g_FIGURES : PySem.W.nsIn K mainGlobals "FIGURES" = some (some (.str "0123456789" u_FIGURES)))
    (m_SquareError : PySem.W.nsIn K mainGlobals "SquareError" = some (some (.ref C_SquareError)))
    (m_BadNumber : PySem.W.nsIn K mainGlobals "BadNumber" = some (some (.ref C_BadNumber)))
    (m_BadPrime : PySem.W.nsIn K mainGlobals "BadPrime" = some (some (.ref C_BadPrime)))
    (m_BadParts : PySem.W.nsIn K mainGlobals "BadParts" = some (some (.ref C_BadParts)))
    (m_BadWalk : PySem.W.nsIn K mainGlobals "BadWalk" = some (some (.ref C_BadWalk)))
    (m_BadText : PySem.W.nsIn K mainGlobals "BadText" = some (some (.ref C_BadText)))
    (ndp : ([C_SquareError, C_BadNumber, C_BadPrime, C_BadParts, C_BadWalk, C_BadText] : List Addr).Nodup)
    (hn : PySem.W.specialIn K (.builtin "object.__class__") "__get__" = some (some (.builtin "getset_descriptor.__get__")))
    (htk : PySem.W.takesIn K (.builtin "object.__class__") = some true)
    (ic_BadNumber : PySem.W.isClsIn K C_BadNumber = true)
    (tc_BadNumber : PySem.W.typeIn K (.ref C_BadNumber) = some (.type "type"))
    (ic_BadParts : PySem.W.isClsIn K C_BadParts = true)
    (tc_BadParts : PySem.W.typeIn K (.ref C_BadParts) = some (.type "type"))
    (ic_BadPrime : PySem.W.isClsIn K C_BadPrime = true)
    (tc_BadPrime : PySem.W.typeIn K (.ref C_BadPrime) = some (.type "type"))
    (ic_BadWalk : PySem.W.isClsIn K C_BadWalk = true)
    (tc_BadWalk : PySem.W.typeIn K (.ref C_BadWalk) = some (.type "type"))
    (ne_BadText_BadNumber : C_BadText ≠ C_BadNumber)
    (kk_BadText_BadNumber : PySem.W.subIn K (.ref C_BadText) (.ref C_BadNumber) = some false)
    (ne_BadText_BadPrime : C_BadText ≠ C_BadPrime)
    (kk_BadText_BadPrime : PySem.W.subIn K (.ref C_BadText) (.ref C_BadPrime) = some false)
    (ne_BadText_BadParts : C_BadText ≠ C_BadParts)
    (kk_BadText_BadParts : PySem.W.subIn K (.ref C_BadText) (.ref C_BadParts) = some false)
    (ne_BadText_BadWalk : C_BadText ≠ C_BadWalk)
    (kk_BadText_BadWalk : PySem.W.subIn K (.ref C_BadText) (.ref C_BadWalk) = some false)
    (kk_BadText_ValueError : PySem.W.subIn K (.ref C_BadText) (.type "ValueError") = some true)
    (x_BadText : PySem.W.excIn K C_BadText bmVE "ValueError.__new__" = true)
    (hd_BadText : PySem.W.hasDictIn K C_BadText = true)
    (ga_BadText : PySem.W.findIn K (.ref C_BadText) "__getattribute__" = some (some (.builtin "BaseException.__getattribute__")))
    (gh_BadText : PySem.W.findIn K (.ref C_BadText) "__getattr__" = some none)
    (ca_BadText : PySem.W.findIn K (.ref C_BadText) "__class__" = some (some (.builtin "object.__class__")))
    (mr_BadText : PySem.W.mroIn K C_BadText (.type "object") = some true)
    (sb_BadText : PySem.W.subIn K (.ref C_BadText) (.type "BaseException") = some true)
    (cb_SquareError : PySem.W.subIn K (.ref C_SquareError) (.type "BaseException") = some true)
    (ci_SquareError : PySem.W.isClsIn K C_SquareError = true)
    (ct_SquareError : PySem.W.typeIn K (.ref C_SquareError) = some (.type "type"))
    (cc_BadText_SquareError : PySem.W.subIn K (.ref C_BadText) (.ref C_SquareError) = some true)
    (a_is_whole : PySem.W.nsIn K mainGlobals "is_whole" = some (some (.ref f_is_whole)))
    (l_is_whole : K.lookup f_is_whole = some ⟨oc_is_whole, od_is_whole, .func (PySem.W.fnOf "is_whole" "is_whole" (defArgs s_is_whole) (defBody s_is_whole) (defScope s_is_whole) .none kV_is_whole dc_is_whole pm_is_whole an_is_whole cd_is_whole ct_is_whole), sl_is_whole⟩)
    (c_is_whole : PySem.W.codeIn K cd_is_whole "is_whole" = true)
    (k_is_whole : PySem.W.keepIn K (.ref f_is_whole) = true)
    (a_is_number : PySem.W.nsIn K mainGlobals "is_number" = some (some (.ref f_is_number)))
    (l_is_number : K.lookup f_is_number = some ⟨oc_is_number, od_is_number, .func (PySem.W.fnOf "is_number" "is_number" (defArgs s_is_number) (defBody s_is_number) (defScope s_is_number) .none kV_is_number dc_is_number pm_is_number an_is_number cd_is_number ct_is_number), sl_is_number⟩)
    (c_is_number : PySem.W.codeIn K cd_is_number "is_number" = true)
    (k_is_number : PySem.W.keepIn K (.ref f_is_number) = true)
    (a_refuse_no_number : PySem.W.nsIn K mainGlobals "refuse_no_number" = some (some (.ref f_refuse_no_number)))
    (l_refuse_no_number : K.lookup f_refuse_no_number = some ⟨oc_refuse_no_number, od_refuse_no_number, .func (PySem.W.fnOf "refuse_no_number" "refuse_no_number" (defArgs s_refuse_no_number) (defBody s_refuse_no_number) (defScope s_refuse_no_number) .none kV_refuse_no_number dc_refuse_no_number pm_refuse_no_number an_refuse_no_number cd_refuse_no_number ct_refuse_no_number), sl_refuse_no_number⟩)
    (c_refuse_no_number : PySem.W.codeIn K cd_refuse_no_number "refuse_no_number" = true)
    (k_refuse_no_number : PySem.W.keepIn K (.ref f_refuse_no_number) = true)
    (a_are_parts_of : PySem.W.nsIn K mainGlobals "are_parts_of" = some (some (.ref f_are_parts_of)))
    (l_are_parts_of : K.lookup f_are_parts_of = some ⟨oc_are_parts_of, od_are_parts_of, .func (PySem.W.fnOf "are_parts_of" "are_parts_of" (defArgs s_are_parts_of) (defBody s_are_parts_of) (defScope s_are_parts_of) .none kV_are_parts_of dc_are_parts_of pm_are_parts_of an_are_parts_of cd_are_parts_of ct_are_parts_of), sl_are_parts_of⟩)
    (c_are_parts_of : PySem.W.codeIn K cd_are_parts_of "are_parts_of" = true)
    (k_are_parts_of : PySem.W.keepIn K (.ref f_are_parts_of) = true)
    (a_written : PySem.W.nsIn K mainGlobals "written" = some (some (.ref f_written)))
    (l_written : K.lookup f_written = some ⟨oc_written, od_written, .func (PySem.W.fnOf "written" "written" (defArgs s_written) (defBody s_written) (defScope s_written) .none kV_written dc_written pm_written an_written cd_written ct_written), sl_written⟩)
    (c_written : PySem.W.codeIn K cd_written "written" = true)
    (k_written : PySem.W.keepIn K (.ref f_written) = true)
    (a_are_few : PySem.W.nsIn K mainGlobals "are_few" = some (some (.ref f_are_few)))
    (l_are_few : K.lookup f_are_few = some ⟨oc_are_few, od_are_few, .func (PySem.W.fnOf "are_few" "are_few" (defArgs s_are_few) (defBody s_are_few) (defScope s_are_few) .none kV_are_few dc_are_few pm_are_few an_are_few cd_are_few ct_are_few), sl_are_few⟩)
    (c_are_few : PySem.W.codeIn K cd_are_few "are_few" = true)
    (k_are_few : PySem.W.keepIn K (.ref f_are_few) = true)
    (a_read : PySem.W.nsIn K mainGlobals "read" = some (some (.ref f_read)))
    (l_read : K.lookup f_read = some ⟨oc_read, od_read, .func (PySem.W.fnOf "read" "read" (defArgs s_read) (defBody s_read) (defScope s_read) .none kV_read dc_read pm_read an_read cd_read ct_read), sl_read⟩)
    (c_read : PySem.W.codeIn K cd_read "read" = true)
    (k_read : PySem.W.keepIn K (.ref f_read) = true)
    (a_read_parts : PySem.W.nsIn K mainGlobals "read_parts" = some (some (.ref f_read_parts)))
    (l_read_parts : K.lookup f_read_parts = some ⟨oc_read_parts, od_read_parts, .func (PySem.W.fnOf "read_parts" "read_parts" (defArgs s_read_parts) (defBody s_read_parts) (defScope s_read_parts) .none kV_read_parts dc_read_parts pm_read_parts an_read_parts cd_read_parts ct_read_parts), sl_read_parts⟩)
    (c_read_parts : PySem.W.codeIn K cd_read_parts "read_parts" = true)
    (k_read_parts : PySem.W.keepIn K (.ref f_read_parts) = true)
    (a_read_part : PySem.W.nsIn K mainGlobals "read_part" = some (some (.ref f_read_part)))
    (l_read_part : K.lookup f_read_part = some ⟨oc_read_part, od_read_part, .func (PySem.W.fnOf "read_part" "read_part" (defArgs s_read_part) (defBody s_read_part) (defScope s_read_part) .none kV_read_part dc_read_part pm_read_part an_read_part cd_read_part ct_read_part), sl_read_part⟩)
    (c_read_part : PySem.W.codeIn K cd_read_part "read_part" = true)
    (k_read_part : PySem.W.keepIn K (.ref f_read_part) = true)
    (a_read_number : PySem.W.nsIn K mainGlobals "read_number" = some (some (.ref f_read_number)))
    (l_read_number : K.lookup f_read_number = some ⟨oc_read_number, od_read_number, .func (PySem.W.fnOf "read_number" "read_number" (defArgs s_read_number) (defBody s_read_number) (defScope s_read_number) .none kV_read_number dc_read_number pm_read_number an_read_number cd_read_number ct_read_number), sl_read_number⟩)
    (c_read_number : PySem.W.codeIn K cd_read_number "read_number" = true)
    (k_read_number : PySem.W.keepIn K (.ref f_read_number) = true)
    (a__law_cell_at : PySem.W.nsIn K mainGlobals "_law_cell_at" = some (some (.ref f__law_cell_at)))
    (l__law_cell_at : K.lookup f__law_cell_at = some ⟨oc__law_cell_at, od__law_cell_at, .func (PySem.W.fnOf "_law_cell_at" "_law_cell_at" (defArgs s__law_cell_at) (defBody s__law_cell_at) (defScope s__law_cell_at) .none kV__law_cell_at dc__law_cell_at pm__law_cell_at an__law_cell_at cd__law_cell_at ct__law_cell_at), sl__law_cell_at⟩)
    (c__law_cell_at : PySem.W.codeIn K cd__law_cell_at "_law_cell_at" = true)
    (k__law_cell_at : PySem.W.keepIn K (.ref f__law_cell_at) = true)
    (a__law_draw : PySem.W.nsIn K mainGlobals "_law_draw" = some (some (.ref f__law_draw)))
    (l__law_draw : K.lookup f__law_draw = some ⟨oc__law_draw, od__law_draw, .func (PySem.W.fnOf "_law_draw" "_law_draw" (defArgs s__law_draw) (defBody s__law_draw) (defScope s__law_draw) .none kV__law_draw dc__law_draw pm__law_draw an__law_draw cd__law_draw ct__law_draw), sl__law_draw⟩)
    (c__law_draw : PySem.W.codeIn K cd__law_draw "_law_draw" = true)
    (k__law_draw : PySem.W.keepIn K (.ref f__law_draw) = true)
    (a__law_count : PySem.W.nsIn K mainGlobals "_law_count" = some (some (.ref f__law_count)))
    (l__law_count : K.lookup f__law_count = some ⟨oc__law_count, od__law_count, .func (PySem.W.fnOf "_law_count" "_law_count" (defArgs s__law_count) (defBody s__law_count) (defScope s__law_count) .none kV__law_count dc__law_count pm__law_count an__law_count cd__law_count ct__law_count), sl__law_count⟩)
    (c__law_count : PySem.W.codeIn K cd__law_count "_law_count" = true)
    (k__law_count : PySem.W.keepIn K (.ref f__law_count) = true)
    (a__law_in : PySem.W.nsIn K mainGlobals "_law_in" = some (some (.ref f__law_in)))
    (l__law_in : K.lookup f__law_in = some ⟨oc__law_in, od__law_in, .func (PySem.W.fnOf "_law_in" "_law_in" (defArgs s__law_in) (defBody s__law_in) (defScope s__law_in) .none kV__law_in dc__law_in pm__law_in an__law_in cd__law_in ct__law_in), sl__law_in⟩)
    (c__law_in : PySem.W.codeIn K cd__law_in "_law_in" = true)
    (k__law_in : PySem.W.keepIn K (.ref f__law_in) = true)
    (a__law_refused : PySem.W.nsIn K mainGlobals "_law_refused" = some (some (.ref f__law_refused)))
    (l__law_refused : K.lookup f__law_refused = some ⟨oc__law_refused, od__law_refused, .func (PySem.W.fnOf "_law_refused" "_law_refused" (defArgs s__law_refused) (defBody s__law_refused) (defScope s__law_refused) .none kV__law_refused dc__law_refused pm__law_refused an__law_refused cd__law_refused ct__law_refused), sl__law_refused⟩)
    (c__law_refused : PySem.W.codeIn K cd__law_refused "_law_refused" = true)
    (k__law_refused : PySem.W.keepIn K (.ref f__law_refused) = true)
    (a__law_right : PySem.W.nsIn K mainGlobals "_law_right" = some (some (.ref f__law_right)))
    (l__law_right : K.lookup f__law_right = some ⟨oc__law_right, od__law_right, .func (PySem.W.fnOf "_law_right" "_law_right" (defArgs s__law_right) (defBody s__law_right) (defScope s__law_right) .none kV__law_right dc__law_right pm__law_right an__law_right cd__law_right ct__law_right), sl__law_right⟩)
    (c__law_right : PySem.W.codeIn K cd__law_right "_law_right" = true)
    (k__law_right : PySem.W.keepIn K (.ref f__law_right) = true)
    (a__law_few : PySem.W.nsIn K mainGlobals "_law_few" = some (some (.ref f__law_few)))
    (l__law_few : K.lookup f__law_few = some ⟨oc__law_few, od__law_few, .func (PySem.W.fnOf "_law_few" "_law_few" (defArgs s__law_few) (defBody s__law_few) (defScope s__law_few) .none kV__law_few dc__law_few pm__law_few an__law_few cd__law_few ct__law_few), sl__law_few⟩)
    (c__law_few : PySem.W.codeIn K cd__law_few "_law_few" = true)
    (k__law_few : PySem.W.keepIn K (.ref f__law_few) = true)
    (a_law : PySem.W.nsIn K mainGlobals "law" = some (some (.ref f_law)))
    (l_law : K.lookup f_law = some ⟨oc_law, od_law, .func (PySem.W.fnOf "law" "law" (defArgs s_law) (defBody s_law) (defScope s_law) .none kV_law dc_law pm_law an_law cd_law ct_law), sl_law⟩)
    (c_law : PySem.W.codeIn K cd_law "law" = true)
    (k_law : PySem.W.keepIn K (.ref f_law) = true) :
    ∃ t, Txt K mg t :=
  ⟨⟨C_SquareError, C_BadNumber, C_BadPrime, C_BadParts, C_BadWalk, C_BadText⟩, {
    z_ValueError := PySem.W.mg_none_of X G z_ValueError,
    z_isinstance := PySem.W.mg_none_of X G z_isinstance,
    z_int := PySem.W.mg_none_of X G z_int,
    z_bool := PySem.W.mg_none_of X G z_bool,
    z_str := PySem.W.mg_none_of X G z_str,
    z_list := PySem.W.mg_none_of X G z_list,
    z_tuple := PySem.W.mg_none_of X G z_tuple,
    z_len := PySem.W.mg_none_of X G z_len,
    z_all := PySem.W.mg_none_of X G z_all,
    z_any := PySem.W.mg_none_of X G z_any,
    z_sorted := PySem.W.mg_none_of X G z_sorted,
    z_sum := PySem.W.mg_none_of X G z_sum,
    z_range := PySem.W.mg_none_of X G z_range,
    g_MOST_NUMBER := ⟨_, PySem.W.mg_of X G g_MOST_NUMBER⟩,
    g_MOST_PARTS := ⟨_, PySem.W.mg_of X G g_MOST_PARTS⟩,
    g_FIGURES := ⟨_, PySem.W.mg_of X G g_FIGURES⟩,
    m_SquareError := PySem.W.mg_of X G m_SquareError,
    m_BadNumber := PySem.W.mg_of X G m_BadNumber,
    m_BadPrime := PySem.W.mg_of X G m_BadPrime,
    m_BadParts := PySem.W.mg_of X G m_BadParts,
    m_BadWalk := PySem.W.mg_of X G m_BadWalk,
    m_BadText := PySem.W.mg_of X G m_BadText,
    nodup := ndp,
    k_BadText_BadNumber := kit_sub ne_BadText_BadNumber ic_BadNumber tc_BadNumber kk_BadText_BadNumber,
    k_BadText_BadPrime := kit_sub ne_BadText_BadPrime ic_BadPrime tc_BadPrime kk_BadText_BadPrime,
    k_BadText_BadParts := kit_sub ne_BadText_BadParts ic_BadParts tc_BadParts kk_BadText_BadParts,
    k_BadText_BadWalk := kit_sub ne_BadText_BadWalk ic_BadWalk tc_BadWalk kk_BadText_BadWalk,
    k_BadText_BadText := kit_rr K _,
    k_BadText_ValueError := kit_ty (by decide +kernel) kk_BadText_ValueError,
    x_BadText := x_BadText,
    e_BadText := ⟨hd_BadText, ga_BadText, gh_BadText, ca_BadText, hn, htk, mr_BadText, sb_BadText⟩,
    w_BadText_SquareError := exm_sub cb_SquareError ci_SquareError ct_SquareError cc_BadText_SquareError,
    h_is_whole := ⟨_, _, fun_mk l_is_whole c_is_whole k_is_whole, (fun_mk l_is_whole c_is_whole k_is_whole).binds (ps := ["value"]) fun _ _ _ _ _ _ us hl => match us, hl with | [_], _ => rfl, PySem.W.mg_of X G a_is_whole⟩,
    h_is_number := ⟨_, _, fun_mk l_is_number c_is_number k_is_number, (fun_mk l_is_number c_is_number k_is_number).binds (ps := ["value"]) fun _ _ _ _ _ _ us hl => match us, hl with | [_], _ => rfl, PySem.W.mg_of X G a_is_number⟩,
    h_refuse_no_number := ⟨_, _, fun_mk l_refuse_no_number c_refuse_no_number k_refuse_no_number, (fun_mk l_refuse_no_number c_refuse_no_number k_refuse_no_number).binds (ps := ["value"]) fun _ _ _ _ _ _ us hl => match us, hl with | [_], _ => rfl, PySem.W.mg_of X G a_refuse_no_number⟩,
    h_are_parts_of := ⟨_, _, fun_mk l_are_parts_of c_are_parts_of k_are_parts_of, (fun_mk l_are_parts_of c_are_parts_of k_are_parts_of).binds (ps := ["parts", "number"]) fun _ _ _ _ _ _ us hl => match us, hl with | [_, _], _ => rfl, PySem.W.mg_of X G a_are_parts_of⟩,
    h_written := ⟨_, _, fun_mk l_written c_written k_written, (fun_mk l_written c_written k_written).binds (ps := ["number", "parts"]) fun _ _ _ _ _ _ us hl => match us, hl with | [_, _], _ => rfl, PySem.W.mg_of X G a_written⟩,
    h_are_few := ⟨_, _, fun_mk l_are_few c_are_few k_are_few, (fun_mk l_are_few c_are_few k_are_few).binds (ps := ["parts"]) fun _ _ _ _ _ _ us hl => match us, hl with | [_], _ => rfl, PySem.W.mg_of X G a_are_few⟩,
    h_read := ⟨_, _, fun_mk l_read c_read k_read, (fun_mk l_read c_read k_read).binds (ps := ["text"]) fun _ _ _ _ _ _ us hl => match us, hl with | [_], _ => rfl, PySem.W.mg_of X G a_read⟩,
    h_read_parts := ⟨_, _, fun_mk l_read_parts c_read_parts k_read_parts, (fun_mk l_read_parts c_read_parts k_read_parts).binds (ps := ["text"]) fun _ _ _ _ _ _ us hl => match us, hl with | [_], _ => rfl, PySem.W.mg_of X G a_read_parts⟩,
    h_read_part := ⟨_, _, fun_mk l_read_part c_read_part k_read_part, (fun_mk l_read_part c_read_part k_read_part).binds (ps := ["piece"]) fun _ _ _ _ _ _ us hl => match us, hl with | [_], _ => rfl, PySem.W.mg_of X G a_read_part⟩,
    h_read_number := ⟨_, _, fun_mk l_read_number c_read_number k_read_number, (fun_mk l_read_number c_read_number k_read_number).binds (ps := ["figures"]) fun _ _ _ _ _ _ us hl => match us, hl with | [_], _ => rfl, PySem.W.mg_of X G a_read_number⟩,
    h__law_cell_at := ⟨_, _, fun_mk l__law_cell_at c__law_cell_at k__law_cell_at, (fun_mk l__law_cell_at c__law_cell_at k__law_cell_at).binds (ps := ["_law_script", "_law_k"]) fun _ _ _ _ _ _ us hl => match us, hl with | [_, _], _ => rfl, PySem.W.mg_of X G a__law_cell_at⟩,
    h__law_draw := ⟨_, _, fun_mk l__law_draw c__law_draw k__law_draw, (fun_mk l__law_draw c__law_draw k__law_draw).binds (ps := ["_law_cell", "_law_k", "_law_many"]) fun _ _ _ _ _ _ us hl => match us, hl with | [_, _, _], _ => rfl, PySem.W.mg_of X G a__law_draw⟩,
    h__law_count := ⟨_, _, fun_mk l__law_count c__law_count k__law_count, (fun_mk l__law_count c__law_count k__law_count).binds (ps := ["_law_text"]) fun _ _ _ _ _ _ us hl => match us, hl with | [_], _ => rfl, PySem.W.mg_of X G a__law_count⟩,
    h__law_in := ⟨_, _, fun_mk l__law_in c__law_in k__law_in, (fun_mk l__law_in c__law_in k__law_in).binds (ps := ["_law_text"]) fun _ _ _ _ _ _ us hl => match us, hl with | [_], _ => rfl, PySem.W.mg_of X G a__law_in⟩,
    h__law_refused := ⟨_, _, fun_mk l__law_refused c__law_refused k__law_refused, (fun_mk l__law_refused c__law_refused k__law_refused).binds (ps := ["_law_text"]) fun _ _ _ _ _ _ us hl => match us, hl with | [_], _ => rfl, PySem.W.mg_of X G a__law_refused⟩,
    h__law_right := ⟨_, _, fun_mk l__law_right c__law_right k__law_right, (fun_mk l__law_right c__law_right k__law_right).binds (ps := ["_law_text"]) fun _ _ _ _ _ _ us hl => match us, hl with | [_], _ => rfl, PySem.W.mg_of X G a__law_right⟩,
    h__law_few := ⟨_, _, fun_mk l__law_few c__law_few k__law_few, (fun_mk l__law_few c__law_few k__law_few).binds (ps := []) fun _ _ _ _ _ _ us hl => match us, hl with | [], _ => rfl, PySem.W.mg_of X G a__law_few⟩,
    h_law := ⟨_, _, fun_mk l_law c_law k_law, (fun_mk l_law c_law k_law).binds (ps := ["_law_script"]) fun _ _ _ _ _ _ us hl => match us, hl with | [_], _ => rfl, PySem.W.mg_of X G a_law⟩ }⟩

local macro_rules | `(tactic| walk_at "rd") => `(tactic| simp only [L2.start, List.map_cons, List.map_nil, List.length_cons, List.length_nil, List.replicate, List.cons_append, List.nil_append, List.append_nil, Nat.sub_self, Nat.reduceAdd, Nat.reduceSub,
  tSeq, tRet, tRetN, tNext, tIfS, tDrop, tAsg, tPar, gName, gNil, gCons, gTup, tVar, tC, tOp, tUn, rI, rI0, rU, rEq, rNe, scal_ii, scal_ss, scal_bb, tTest, tB, tAnd, tOr, tNot, tAndV, tOrV, tNotV, tIf, tCB, tCons, tNil, tCall, tChain, tChain3, tLst, tTup, tDGet, tDGet2, tDIn, sDPut, tDNewK, okC, clsV, cxOf_K,
  List.getElem?_cons_zero, List.getElem?_cons_succ, Option.some.injEq, exists_eq_left', exists_eq_left, exists_eq_right, exists_and_left, and_assoc, V.int.injEq, V.bl.injEq, V.ref.injEq, V.str.injEq, List.cons.injEq, and_true, true_and, List.set_cons_zero, List.set_cons_succ,
  if_true, if_false, ↓reduceIte, Bool.false_eq_true, Bool.true_eq_false, Bool.not_true, Bool.not_false, Bool.not_eq_true', decide_eq_true_eq, decide_eq_false_iff_not])
local macro_rules | `(tactic| walk_at "rs") => `(tactic| simp only [L2.start, List.map_cons, List.map_nil, List.length_cons, List.length_nil, List.replicate, List.cons_append, List.nil_append, List.append_nil, Nat.sub_self, Nat.reduceAdd, Nat.reduceSub, cxOf_K])
def okI (v : Int) : Bool := decide (0 ≤ v) && decide (v ≤ 10000)
theorem okI_iff {v : Int} : okI v = true ↔ 0 ≤ v ∧ v ≤ 10000 := by
  unfold okI
  rw [Bool.and_eq_true, decide_eq_true_iff, decide_eq_true_iff]
/-! promises: whole numbers handed in -/
def spWhole : Sp := fun vs H Q _ => ∃ v : Int, vs = [.int v] ∧ Q (.bl true) H
def spNumber : Sp := fun vs H Q _ => ∃ v : Int, vs = [.int v] ∧ Q (.bl (okI v)) H
def spRefuse : Sp := fun vs H Q _ => ∃ v : Int, vs = [.int v] ∧ okI v = true ∧ Q .non H
section
variable {P : Program} {w : World} {K : PySem.W.Frag} {mg : Str → Option Value} {base : Heap} {t : Adr}
theorem ok_is_whole (T : Txt K mg t) : Known P w K mg base 1 "is_whole" ["value"] spWhole := by
  have S : FnScope ["value"] ["value"] (defScope s_is_whole) := ⟨rfl, rfl, rfl, by decide +kernel, rfl, by decide +kernel, by decide +kernel⟩
  refine Known.of T.h_is_whole S (fun vs H Q E h => ?_) (fun f cdv A outer s H vs Q E hr h => ?_)
  · obtain ⟨v, rfl, _⟩ := h
    rfl
  obtain ⟨v, rfl, q⟩ := h
  refine ⟨_, (pss_one (ps_ret (pe_and (pe_callB call_isinst rfl T.z_isinstance bt_isinstance (pa_cons (pv 0) (pa_cons (pe_ty rfl T.z_int bt_int) pa_nil))) (pe_one (pe_not (pe_callB call_isinst rfl T.z_isinstance bt_isinstance (pa_cons (pv 0) (pa_cons (pe_ty rfl T.z_bool bt_bool) pa_nil)))))))), ?_⟩
  walk_at "rd"
  exact ⟨true, inst_ii _ _ _, iteT ⟨false, inst_ib _ _ _, q⟩⟩
theorem ok_is_number (T : Txt K mg t) (K_is_whole : Known P w K mg base 1 "is_whole" ["value"] spWhole) : Known P w K mg base 2 "is_number" ["value"] spNumber := by
  have S : FnScope ["value"] ["value"] (defScope s_is_number) := ⟨rfl, rfl, rfl, by decide +kernel, rfl, by decide +kernel, by decide +kernel⟩
  refine Known.of T.h_is_number S (fun vs H Q E h => ?_) (fun f cdv A outer s H vs Q E hr h => ?_)
  · obtain ⟨v, rfl, _⟩ := h
    rfl
  obtain ⟨v, rfl, q⟩ := h
  refine ⟨_, (pss_one (ps_ret (pe_and (pe_fn K_is_whole hr rfl (pa_cons (pv 0) pa_nil)) (pe_one (pe_chain op_le op_le pe_int (pv 0) (pe_globI rfl T.g_MOST_NUMBER)))))), ?_⟩
  walk_at "rd"
  simp only [spWhole]
  walk_at "rd"
  unfold okI at q
  split
  · rename_i h0
    rw [decide_eq_true h0, Bool.true_and] at q
    exact q
  · rename_i h0
    rw [decide_eq_false h0, Bool.false_and] at q
    exact q
theorem ok_refuse_no_number (T : Txt K mg t) (K_is_number : Known P w K mg base 2 "is_number" ["value"] spNumber) : Known P w K mg base 3 "refuse_no_number" ["value"] spRefuse := by
  have S : FnScope ["value"] ["value"] (defScope s_refuse_no_number) := ⟨rfl, rfl, rfl, by decide +kernel, rfl, by decide +kernel, by decide +kernel⟩
  refine Known.of T.h_refuse_no_number S (fun vs H Q E h => ?_) (fun f cdv A outer s H vs Q E hr h => ?_)
  · obtain ⟨v, rfl, _⟩ := h
    rfl
  obtain ⟨v, rfl, hv, q⟩ := h
  refine ⟨_, (pss_one (ps_if (pt_not (pt_val (pe_fn K_is_number hr rfl (pa_cons (pv 0) pa_nil)))) (pss_one ps_never)
      pss_nil)), ?_⟩
  walk_at "rd"
  simp only [spNumber]
  walk_at "rd"
  rw [if_neg (by rw [hv]; decide)]
  exact q
end
end Sq

namespace Sq
open PySem L2
local macro_rules | `(tactic| walk_at "rd") => `(tactic| simp only [L2.start, List.map_cons, List.map_nil, List.length_cons, List.length_nil, List.replicate, List.cons_append, List.nil_append, List.append_nil, Nat.sub_self, Nat.reduceAdd, Nat.reduceSub,
  tSeq, tRet, tRetN, tNext, tIfS, tDrop, tAsg, tPar, gName, gNil, gCons, gTup, tVar, tC, tOp, tUn, rI, rI0, rU, rEq, rNe, scal_ii, scal_ss, scal_bb, tTest, tB, tAnd, tOr, tNot, tAndV, tOrV, tNotV, tIf, tCB, tCons, tNil, tCall, tChain, tChain3, tLst, tTup, tDGet, tDGet2, tDIn, sDPut, tDNewK, okC, clsV, cxOf_K,
  List.getElem?_cons_zero, List.getElem?_cons_succ, Option.some.injEq, exists_eq_left', exists_eq_left, exists_eq_right, exists_and_left, and_assoc, V.int.injEq, V.bl.injEq, V.ref.injEq, V.str.injEq, List.cons.injEq, and_true, true_and, List.set_cons_zero, List.set_cons_succ,
  if_true, if_false, ↓reduceIte, Bool.false_eq_true, Bool.true_eq_false, Bool.not_true, Bool.not_false, Bool.not_eq_true', decide_eq_true_eq, decide_eq_false_iff_not])
local macro_rules | `(tactic| walk_at "rs") => `(tactic| simp only [L2.start, List.map_cons, List.map_nil, List.length_cons, List.length_nil, List.replicate, List.cons_append, List.nil_append, List.append_nil, Nat.sub_self, Nat.reduceAdd, Nat.reduceSub, cxOf_K])

/-- whether parts, none less than the one ahead, are a number -/
def partsB (ns : List Int) (n : Int) : Bool := ns.all okI && (decide (ns.Pairwise (· ≤ ·)) && decide ((ns.map fun x => x * x).sum = n))
def spParts : Sp := fun vs H Q _ => ∃ (p : Addr) (ns : List Int) (n : Int), vs = [.ref p, .int n] ∧ H p = some (.lst (ns.map V.int)) ∧ ns.length < 64 ∧ ∀ H', Same H H' → Q (.bl (partsB ns n)) H'
def fOk : V → V
  | .int v => .bl (okI v)
  | x => x
def fSq : V → V
  | .int v => .int (v * v)
  | x => x
theorem map_fOk (ns : List Int) : (ns.map V.int).map fOk = (ns.map okI).map V.bl := by
  rw [List.map_map, List.map_map]
  rfl
theorem map_fSq (ns : List Int) : (ns.map V.int).map fSq = (ns.map fun x => x * x).map V.int := by
  rw [List.map_map, List.map_map]
  rfl
theorem all_ok (ns : List Int) : (ns.map okI).all id = ns.all okI := by
  rw [List.all_map]
  rfl
theorem sorted_same : ∀ {a b : List Int}, a.Perm b → a.Pairwise (· ≤ ·) → b.Pairwise (· ≤ ·) → a = b := fun h h1 h2 => h.eq_of_pairwise (fun _ _ _ _ h3 h4 => Int.le_antisymm h3 h4) h1 h2
section
variable {P : Program} {w : World} {K : PySem.W.Frag} {mg : Str → Option Value} {base : Heap} {t : Adr}
theorem ok_are_parts_of (T : Txt K mg t) (K_is_number : Known P w K mg base 2 "is_number" ["value"] spNumber) : Known P w K mg base 3 "are_parts_of" ["parts", "number"] spParts := by
  have S : FnScope ["parts", "number"] ["parts", "number"] (defScope s_are_parts_of) := ⟨rfl, rfl, rfl, by decide +kernel, rfl, by decide +kernel, by decide +kernel⟩
  refine Known.of T.h_are_parts_of S (fun vs H Q E h => ?_) (fun f cdv A outer s H vs Q E hr h => ?_)
  · obtain ⟨p, ns, n, rfl, _⟩ := h
    rfl
  obtain ⟨p, ns, n, rfl, hp, hl, q⟩ := h
  refine ⟨_, (pss_cons (ps_if (PW.pt (pw_or (pt_not (pt_val (pe_callB call_isinst rfl T.z_isinstance bt_isinstance (pa_cons (pv 0) (pa_cons (pe_ty rfl T.z_list bt_list) pa_nil))))) (pw_or1 (pt_not (pt_val (pe_callB (call_all_list hr.hd) rfl T.z_all bt_all (pa_cons (pe_comp (N' := ["part"]) (cap := [none]) rfl (pi_list (pv 0)) (by show scopeOk _ (defScope s_are_parts_of) = true; decide +kernel) (by show capsOk ["parts", "number"] _ _ _ = true; decide +kernel) (fun _ _ _ _ => ⟨(pg_name (i := 0) (show List.Nodup (["part"] : List Str) by decide +kernel) rfl (by first | exact Or.inl rfl | exact Or.inr rfl)), pf_nil, (pe_fn K_is_number hr rfl (pa_cons (pv 0) pa_nil))⟩)) pa_nil))))))) (pss_one (ps_ret pe_bl))
      pss_nil)
      (pss_one (ps_ret (pe_and (pe_cmpR (op_eqD hr.units) (pv 0) (pe_callB call_sorted_ints rfl T.z_sorted bt_sorted (pa_cons (pv 0) pa_nil)) (nomark _)) (pe_one (pe_cmpR op_eq (pe_callB (call_sum_list hr.hd) rfl T.z_sum bt_sum (pa_cons (pe_comp (N' := ["part"]) (cap := [none]) rfl (pi_list (pv 0)) (by show scopeOk _ (defScope s_are_parts_of) = true; decide +kernel) (by show capsOk ["parts", "number"] _ _ _ = true; decide +kernel) (fun _ _ _ _ => ⟨(pg_name (i := 0) (show List.Nodup (["part"] : List Str) by decide +kernel) rfl (by first | exact Or.inl rfl | exact Or.inr rfl)), pf_nil, (pe_op op_mul (pv 0) (pv 0))⟩)) pa_nil)) (pv 1) (nomark _))))))), ?_⟩
  walk_at "rd"
  refine ⟨true, inst_ll hp, ?_⟩
  walk_at "rd"
  have hz : (ns.map V.int).length ≤ sizeLine := by
    rw [List.length_map]
    exact Nat.le_of_lt (small1000 (by omega))
  refine rd_comp fOk rfl (SqL.of hp) hz (fun x hx R r => ?_) (fun D hD => ?_)
  · obtain ⟨v, _, rfl⟩ := List.mem_map.mp hx
    walk_at "rd"
    simp only [spNumber]
    walk_at "rd"
    exact r
  have hpD : p ≠ D := ne_of_none hp hD
  have hp1 : (upd H D (.lst ((ns.map V.int).map fOk))) p = some (.lst (ns.map V.int)) := by rw [upd_ne hpD]; exact hp
  refine ⟨D, rfl, ns.map okI, SqL.of (by rw [← map_fOk]; exact upd_same), ?_⟩
  rw [all_ok]
  have s1 : Same H (upd H D (.lst ((ns.map V.int).map fOk))) := Same.upd hD _
  generalize upd H D (.lst ((ns.map V.int).map fOk)) = H1 at hp1 s1
  split
  · rename_i h1
    have e : partsB ns n = false := by
      unfold partsB
      rw [h1, Bool.false_and]
    rw [e] at q
    exact q _ s1
  rename_i h1
  rw [Bool.not_eq_false] at h1
  refine ⟨ns, SqL.of hp1, hl, fun ns' l hperm hpw hl0 => ?_⟩
  have hpl : p ≠ l := ne_of_none hp1 hl0
  have hp2 : (upd H1 l (.lst (ns'.map V.int))) p = some (.lst (ns.map V.int)) := by rw [upd_ne hpl]; exact hp1
  have s2 : Same H (upd H1 l (.lst (ns'.map V.int))) := s1.trans (Same.upd hl0 _)
  refine ⟨.list (ns.map .int), .lst (SqL.of hp2) (Dts.ints ns), .list (ns'.map .int), .lst (SqL.of upd_same) (Dts.ints ns'), shaped_ints _, shaped_ints _, ?_⟩
  generalize upd H1 l (.lst (ns'.map V.int)) = H2 at hp2 s2
  have ev : PyData.eqv (.list (ns.map .int)) (.list (ns'.map .int)) = decide (ns = ns') := by
    simp only [PyData.eqv, eqv_ints]
  rw [ev]
  walk_at "rd"
  split
  · rename_i h2
    have h3 : ns.Pairwise (· ≤ ·) := h2 ▸ hpw
    refine rd_comp fSq rfl (SqL.of hp2) hz (fun x hx R r => ?_) (fun D2 hD2 => ?_)
    · obtain ⟨v, hv, rfl⟩ := List.mem_map.mp hx
      have hv' := okI_iff.mp (List.all_eq_true.mp h1 v hv)
      walk_at "rd"
      exact ⟨.inl ⟨by omega, by omega⟩, r⟩
    · refine ⟨D2, rfl, ns.map fun x => x * x, SqL.of (by rw [← map_fSq]; exact upd_same), ?_⟩
      have e : partsB ns n = decide ((ns.map fun x => x * x).sum = n) := by
        unfold partsB
        rw [h1, decide_eq_true h3, Bool.true_and, Bool.true_and]
      rw [← e]
      exact q _ (s2.trans (Same.upd hD2 _))
  · rename_i h2
    have e : partsB ns n = false := by
      unfold partsB
      have h3 : ¬ ns.Pairwise (· ≤ ·) := fun z => h2 (sorted_same hperm.symm z hpw)
      rw [h1, decide_eq_false h3]
      rfl
    rw [e] at q
    exact q _ s2
end
end Sq

namespace Sq
open PySem L2
local macro_rules | `(tactic| walk_at "rd") => `(tactic| simp only [L2.start, List.map_cons, List.map_nil, List.length_cons, List.length_nil, List.replicate, List.cons_append, List.nil_append, List.append_nil, Nat.sub_self, Nat.reduceAdd, Nat.reduceSub,
  tSeq, tRet, tRetN, tNext, tIfS, tDrop, tAsg, tPar, gName, gNil, gCons, gTup, tVar, tC, tOp, tUn, rI, rI0, rU, rEq, rNe, scal_ii, scal_ss, scal_bb, tTest, tB, tAnd, tOr, tNot, tAndV, tOrV, tNotV, tIf, tCB, tCons, tNil, tCall, tChain, tChain3, tLst, tTup, tDGet, tDGet2, tDIn, sDPut, tDNewK, okC, clsV, cxOf_K,
  List.getElem?_cons_zero, List.getElem?_cons_succ, Option.some.injEq, exists_eq_left', exists_eq_left, exists_eq_right, exists_and_left, and_assoc, V.int.injEq, V.bl.injEq, V.ref.injEq, V.str.injEq, List.cons.injEq, and_true, true_and, List.set_cons_zero, List.set_cons_succ,
  if_true, if_false, ↓reduceIte, Bool.false_eq_true, Bool.true_eq_false, Bool.not_true, Bool.not_false, Bool.not_eq_true', decide_eq_true_eq, decide_eq_false_iff_not])
local macro_rules | `(tactic| walk_at "rs") => `(tactic| simp only [L2.start, List.map_cons, List.map_nil, List.length_cons, List.length_nil, List.replicate, List.cons_append, List.nil_append, List.append_nil, Nat.sub_self, Nat.reduceAdd, Nat.reduceSub, cxOf_K])

section
variable {P : Program} {w : World} {K : PySem.W.Frag} {mg : Str → Option Value} {base : Heap} {t : Adr}
end
end Sq

namespace Sq
open PySem L2
local macro_rules | `(tactic| walk_at "rd") => `(tactic| simp only [L2.start, List.map_cons, List.map_nil, List.length_cons, List.length_nil, List.replicate, List.cons_append, List.nil_append, List.append_nil, Nat.sub_self, Nat.reduceAdd, Nat.reduceSub,
  tSeq, tRet, tRetN, tNext, tIfS, tDrop, tAsg, tPar, gName, gNil, gCons, gTup, tVar, tC, tOp, tUn, rI, rI0, rU, rEq, rNe, scal_ii, scal_ss, scal_bb, tTest, tB, tAnd, tOr, tNot, tAndV, tOrV, tNotV, tIf, tCB, tCons, tNil, tCall, tChain, tChain3, tLst, tTup, tDGet, tDGet2, tDIn, sDPut, tDNewK, okC, clsV, cxOf_K,
  List.getElem?_cons_zero, List.getElem?_cons_succ, Option.some.injEq, exists_eq_left', exists_eq_left, exists_eq_right, exists_and_left, and_assoc, V.int.injEq, V.bl.injEq, V.ref.injEq, V.str.injEq, List.cons.injEq, and_true, true_and, List.set_cons_zero, List.set_cons_succ,
  if_true, if_false, ↓reduceIte, Bool.false_eq_true, Bool.true_eq_false, Bool.not_true, Bool.not_false, Bool.not_eq_true', decide_eq_true_eq, decide_eq_false_iff_not])
local macro_rules | `(tactic| walk_at "rs") => `(tactic| simp only [L2.start, List.map_cons, List.map_nil, List.length_cons, List.length_nil, List.replicate, List.cons_append, List.nil_append, List.append_nil, Nat.sub_self, Nat.reduceAdd, Nat.reduceSub, cxOf_K])

set_option maxHeartbeats 4000000
section
variable {P : Program} {w : World} {K : PySem.W.Frag} {mg : Str → Option Value} {base : Heap} {t : Adr}
end
end Sq

namespace L2
open PySem PySem.Spec PyProof.Rows
/-- whole numbers written out -/
def intsOf : List Expr → Option (List Int)
  | [] => some []
  | .Constant (.int i) _ _ :: r => (intsOf r).map (i :: ·)
  | _ :: _ => none
theorem pa_ints {X : Cx} : ∀ {es : List Expr} {ns : List Int}, intsOf es = some ns → PA X es (fun _ H Q => Q (ns.map V.int) H)
  | [], ns, h => by
    have e : [] = ns := Option.some.inj h
    subst e
    exact pa_nil
  | e :: r, ns, h => by
    unfold intsOf at h
    split at h
    · rename_i h0
      cases h0
    · rename_i i j pos r' h0
      cases h0
      cases hr : intsOf r with
      | none => rw [hr] at h; cases h
      | some ms =>
        rw [hr] at h
        have e : i :: ms = ns := Option.some.inj h
        subst e
        exact pa_cons pe_int (pa_ints hr)
    · cases h
end L2
namespace L2
open PySem PySem.Spec PyProof.Rows
end L2
namespace Sq
open PySem L2
local macro_rules | `(tactic| walk_at "rd") => `(tactic| simp only [L2.start, List.map_cons, List.map_nil, List.length_cons, List.length_nil, List.replicate, List.cons_append, List.nil_append, List.append_nil, Nat.sub_self, Nat.reduceAdd, Nat.reduceSub,
  tSeq, tRet, tRetN, tNext, tIfS, tDrop, tAsg, tPar, gName, gNil, gCons, gTup, tVar, tC, tOp, tUn, rI, rI0, rU, rEq, rNe, scal_ii, scal_ss, scal_bb, tTest, tB, tAnd, tOr, tNot, tAndV, tOrV, tNotV, tIf, tCB, tCons, tNil, tCall, tChain, tChain3, tLst, tTup, tDGet, tDGet2, tDIn, sDPut, tDNewK, okC, clsV, cxOf_K,
  List.getElem?_cons_zero, List.getElem?_cons_succ, Option.some.injEq, exists_eq_left', exists_eq_left, exists_eq_right, exists_and_left, and_assoc, V.int.injEq, V.bl.injEq, V.ref.injEq, V.str.injEq, List.cons.injEq, and_true, true_and, List.set_cons_zero, List.set_cons_succ,
  if_true, if_false, ↓reduceIte, Bool.false_eq_true, Bool.true_eq_false, Bool.not_true, Bool.not_false, Bool.not_eq_true', decide_eq_true_eq, decide_eq_false_iff_not])
local macro_rules | `(tactic| walk_at "rs") => `(tactic| simp only [L2.start, List.map_cons, List.map_nil, List.length_cons, List.length_nil, List.replicate, List.cons_append, List.nil_append, List.append_nil, Nat.sub_self, Nat.reduceAdd, Nat.reduceSub, cxOf_K])

set_option maxHeartbeats 1000000
/-- texts of plain signs -/
def SO (ss : List Str) : Prop := ∀ x ∈ ss, PyData.strOk x = true
theorem SO.nil : SO [] := fun x hx => by simp at hx
theorem SO.one {x : Str} (h : PyData.strOk x = true) : SO [x] := fun y hy => by
  rw [List.mem_singleton.mp hy]
  exact h
/-! what the laws draw -/
def cellAt (ns : List Int) (k : Nat) : Int := ns.getD k 0
def spCell (K : PySem.W.Frag) : Sp := fun vs H Q _ => ∃ (p : Addr) (ns : List Int) (k : Nat), vs = [.ref p, .int k] ∧ SqL K H p (ns.map V.int) ∧ ns.length ≤ 63 ∧ Q (.int (cellAt ns k)) H
def drawPs : List Int := [1000003, 1000033, 1000037, 1000039, 1000081, 1000099, 1000117, 1000121, 1000133, 1000151, 1000159, 1000171, 1000183, 1000187, 1000193, 1000199]
def draw (cell : Int) (k : Nat) (many : Int) : Int := (cell * 48271 + k * 69621) % (drawPs.getD (k % 16) 1) % many
theorem draw_lt {c : Int} {k : Nat} {m : Int} (h : 0 < m) : 0 ≤ draw c k m ∧ draw c k m < m := ⟨Int.emod_nonneg _ (by omega), Int.emod_lt_of_pos _ h⟩
def spDraw : Sp := fun vs H Q _ => ∃ (c : Int) (k : Nat) (m : Int), vs = [.int c, .int k, .int m] ∧ k < 100 ∧ 0 < m ∧ ∀ H', Same H H' → Q (.int (draw c k m)) H'
section
variable {P : Program} {w : World} {K : PySem.W.Frag} {mg : Str → Option Value} {base : Heap} {t : Adr}
theorem ok_law_cell_at (T : Txt K mg t) : Known P w K mg base 1 "_law_cell_at" ["_law_script", "_law_k"] (spCell K) := by
  have S : FnScope ["_law_script", "_law_k"] ["_law_script", "_law_k"] (defScope s__law_cell_at) := ⟨rfl, rfl, rfl, by decide +kernel, rfl, by decide +kernel, by decide +kernel⟩
  refine Known.of T.h__law_cell_at S (fun vs H Q E h => ?_) (fun f cdv A outer s H vs Q E hr h => ?_)
  · obtain ⟨p, ns, k, rfl, _⟩ := h
    rfl
  obtain ⟨p, ns, k, rfl, hp, hz, q⟩ := h
  refine ⟨_, (pss_cons (ps_if (pt_cmpR op_lt (pv 1) (pe_callB call_len_seq rfl T.z_len bt_len (pa_cons (pv 0) pa_nil)) (nomark _)) (pss_one (ps_ret (pe_ix ix_list (pv 0) (pv 1) (fun _ _ => rfl))))
      pss_nil)
      (pss_one (ps_ret pe_int))), ?_⟩
  walk_at "rd"
  refine ⟨ns.map V.int, .inl hp, ?_⟩
  rw [List.length_map]
  unfold cellAt at q
  split
  · rename_i h0
    have h0' : k < ns.length := by exact_mod_cast h0
    refine ⟨p, _, _, .int (ns.getD k 0), rfl, rfl, hp, atI_nat ?_, q⟩
    rw [List.getElem?_map, List.getD_eq_getElem?_getD, List.getElem?_eq_getElem h0']
    rfl
  · rename_i h0
    have h0' : ns.length ≤ k := by
      rcases Nat.lt_or_ge k ns.length with z | z
      · exact absurd (by exact_mod_cast z) h0
      · exact z
    rw [List.getD_eq_getElem?_getD, List.getElem?_eq_none_iff.mpr h0'] at q
    exact q
end
end Sq

namespace Sq
open PySem L2
local macro_rules | `(tactic| walk_at "rd") => `(tactic| simp only [L2.start, List.map_cons, List.map_nil, List.length_cons, List.length_nil, List.replicate, List.cons_append, List.nil_append, List.append_nil, Nat.sub_self, Nat.reduceAdd, Nat.reduceSub,
  tSeq, tRet, tRetN, tNext, tIfS, tDrop, tAsg, tPar, gName, gNil, gCons, gTup, tVar, tC, tOp, tUn, rI, rI0, rU, rEq, rNe, scal_ii, scal_ss, scal_bb, tTest, tB, tAnd, tOr, tNot, tAndV, tOrV, tNotV, tIf, tCB, tCons, tNil, tCall, tChain, tChain3, tLst, tTup, tDGet, tDGet2, tDIn, sDPut, tDNewK, okC, clsV, cxOf_K,
  List.getElem?_cons_zero, List.getElem?_cons_succ, Option.some.injEq, exists_eq_left', exists_eq_left, exists_eq_right, exists_and_left, and_assoc, V.int.injEq, V.bl.injEq, V.ref.injEq, V.str.injEq, List.cons.injEq, and_true, true_and, List.set_cons_zero, List.set_cons_succ,
  if_true, if_false, ↓reduceIte, Bool.false_eq_true, Bool.true_eq_false, Bool.not_true, Bool.not_false, Bool.not_eq_true', decide_eq_true_eq, decide_eq_false_iff_not])
local macro_rules | `(tactic| walk_at "rs") => `(tactic| simp only [L2.start, List.map_cons, List.map_nil, List.length_cons, List.length_nil, List.replicate, List.cons_append, List.nil_append, List.append_nil, Nat.sub_self, Nat.reduceAdd, Nat.reduceSub, cxOf_K])

set_option maxHeartbeats 1000000
theorem draw_pos : ∀ j : Nat, j < 16 → 0 < drawPs.getD j 1 := by decide
section
variable {P : Program} {w : World} {K : PySem.W.Frag} {mg : Str → Option Value} {base : Heap} {t : Adr}
theorem ok_law_draw (T : Txt K mg t) : Known P w K mg base 1 "_law_draw" ["_law_cell", "_law_k", "_law_many"] spDraw := by
  have S : FnScope ["_law_cell", "_law_k", "_law_many", "_law_primes"] ["_law_cell", "_law_k", "_law_many"] (defScope s__law_draw) := ⟨rfl, rfl, rfl, by decide +kernel, rfl, by decide +kernel, by decide +kernel⟩
  refine Known.of T.h__law_draw S (fun vs H Q E h => ?_) (fun f cdv A outer s H vs Q E hr h => ?_)
  · obtain ⟨c, k, m, rfl, _⟩ := h
    rfl
  obtain ⟨c, k, m, rfl, hk, hm, q⟩ := h
  have hb : ∃ p1 p2 p3 k' es r, defBody s__law_draw = .Assign [.Name "_law_primes" p1] (.Tuple es k' p2) p3 :: r ∧ intsOf es = some drawPs ∧ r = (defBody s__law_draw).drop 1 := ⟨_, _, _, _, _, _, rfl, rfl, rfl⟩
  obtain ⟨p1, p2, p3, k', es, r, hb, he, hr'⟩ := hb
  rw [hb]
  have hz : ∃ tr, PSs (cxOf CX0 P w K mg base ["_law_cell", "_law_k", "_law_many", "_law_primes"] "_law_draw" (defScope s__law_draw) f cdv A outer s H E).nox r tr ∧
      ∀ (D : Ends) (tp : Addr), H tp = none → D.rt (.int (draw c k m)) (upd H tp (.tup (drawPs.map V.int))) → tr D [some (.int c), some (.int k), some (.int m), some (.ref tp)] (upd H tp (.tup (drawPs.map V.int))) := by
    rw [hr']
    refine ⟨_, (pss_one (ps_ret (pe_op op_mod (pe_op op_mod (pe_op op_add (pe_op op_mul (pv 0) pe_int) (pe_op op_mul (pv 1) pe_int)) (pe_ix ix_tup (pv 3) (pe_op op_mod (pv 1) pe_int) (fun _ _ => rfl))) (pv 2)))), fun D tp htp q' => ?_⟩
    walk_at "rd"
    have hj : k % 16 < 16 := Nat.mod_lt _ (by decide)
    have ej : ((k : Int) % 16) = ((k % 16 : Nat) : Int) := by omega
    refine ⟨.inr ⟨by decide, by decide⟩, .inr ⟨by decide, by decide⟩, by decide, ?_⟩
    rw [ej]
    refine ⟨tp, _, _, .int (drawPs.getD (k % 16) 1), rfl, rfl, SqT.of upd_same, atI_nat ?_, _, rfl, draw_pos _ hj, hm, q'⟩
    rw [List.getElem?_map, List.getD_eq_getElem?_getD, List.getElem?_eq_getElem (show k % 16 < drawPs.length from hj)]
    rfl
  obtain ⟨tr, hz1, hz2⟩ := hz
  refine ⟨_, pss_cons (ps_set (i := 3) S.nd rfl (by first | exact Or.inl rfl | exact Or.inr rfl) (pe_tup (pa_ints he))) hz1, ?_⟩
  refine ⟨by show 16 ≤ sizeLine; decide, fun tp htp => ?_⟩
  exact hz2 _ tp htp (q _ (Same.upd htp _))
/-- the number that a cell draws -/
def number (c : Int) : Int :=
  if draw c 1 6 = 0 then draw c 2 60
  else if draw c 1 6 = 1 then 1 * 2 ^ (2 * draw c 2 5).toNat * (8 * draw c 3 5 + 7)
  else if draw c 1 6 = 2 then draw c 2 40 * ([3, 7, 9, 49, 4, 25] : List Int).getD (draw c 3 6).toNat 0
  else if draw c 1 6 = 3 then draw c 2 70 ^ 2 + draw c 3 70 ^ 2
  else draw c 2 10001
end
end Sq

namespace Sq
open PySem L2 Tx
local macro_rules | `(tactic| walk_at "rd") => `(tactic| simp only [L2.start, List.map_cons, List.map_nil, List.length_cons, List.length_nil, List.replicate, List.cons_append, List.nil_append, List.append_nil, Nat.sub_self, Nat.reduceAdd, Nat.reduceSub,
  tSeq, tRet, tRetN, tNext, tIfS, tDrop, tAsg, tPar, gName, gNil, gCons, gTup, tVar, tC, tOp, tUn, rI, rI0, rU, rEq, rNe, scal_ii, scal_ss, scal_bb, tTest, tB, tAnd, tOr, tNot, tAndV, tOrV, tNotV, tIf, tCB, tCons, tNil, tCall, tChain, tChain3, tLst, tTup, tDGet, tDGet2, tDIn, sDPut, tDNewK, okC, clsV, cxOf_K,
  List.getElem?_cons_zero, List.getElem?_cons_succ, Option.some.injEq, exists_eq_left', exists_eq_left, exists_eq_right, exists_and_left, and_assoc, V.int.injEq, V.bl.injEq, V.ref.injEq, V.str.injEq, List.cons.injEq, and_true, true_and, List.set_cons_zero, List.set_cons_succ,
  if_true, if_false, ↓reduceIte, Bool.false_eq_true, Bool.true_eq_false, Bool.not_true, Bool.not_false, Bool.not_eq_true', decide_eq_true_eq, decide_eq_false_iff_not])
local macro_rules | `(tactic| walk_at "rs") => `(tactic| simp only [L2.start, List.map_cons, List.map_nil, List.length_cons, List.length_nil, List.replicate, List.cons_append, List.nil_append, List.append_nil, Nat.sub_self, Nat.reduceAdd, Nat.reduceSub, cxOf_K])

set_option maxHeartbeats 2000000
local macro_rules | `(tactic| walk_at "rt") => `(tactic| (simp only [tBM, tyV, rEndswith, rSplit, rStrip, rPartition, rJoin, tSl, rSlS, tNoPart, tPart]; walk_at "rd"))
/-! k08: the program's reading -/
def spReadNum (t : Adr) : Sp := fun vs H Q E => ∃ z : Str, vs = [.str z] ∧ z.length ≤ 5000 ∧ (∀ n, numOf z = some n → ∀ H', Same H H' → Q (.int n) H') ∧ (numOf z = none → ∀ H', Same H H' → E (.ref t.BadText) none H')
def fFig : Nat → V := fun c => .bl (fig c)
theorem all_fig (l : List Nat) : (l.map fFig) = (l.map fig).map V.bl := by rw [List.map_map]; rfl
theorem fig_in (c : Nat) : (!(Builtin.Str.occurrences sFig ⟨#[c]⟩ 0 sFig.length 1).isEmpty) = fig c := by
  rw [StrLaws.found_one, cs_sFig, Bool.eq_iff_iff]
  simp [fig]
  omega
theorem digits_of {l : List Nat} (h : l.all fig = true) : NumText.AllDigits l := fun c hc => by
  have := List.all_eq_true.mp h c hc
  simpa [fig] using this
theorem int_of {z : Str} (h0 : z.length ≠ 0) (h5 : z.length ≤ 5) (hf : (cs z).all fig = true) : PySem.intText? z = some ((NumText.digitsVal (cs z) : Nat) : Int) :=
  intText_digits (digits_of hf) (fun e => h0 (by rw [← cs_len, cs, e]; rfl)) (by omega)
theorem log_small {n : Nat} (h : n < 2 ^ 17) : n.log2 < 1920 := by
  by_cases h0 : n = 0
  · subst h0
    decide
  · have := (Nat.log2_lt (n := n) (k := 17) h0).mpr h
    omega
theorem len5 : (Str.ofString (toString (10000 : Int))).length = 5 := by decide +kernel
section
variable {P : Program} {w : World} {K : PySem.W.Frag} {mg : Str → Option Value} {base : Heap} {t : Adr}
theorem ok_read_number (T : Txt K mg t) (K_is_number : Known P w K mg base 2 "is_number" ["value"] spNumber) : KnownX P w K mg base 3 "read_number" ["figures"] (spReadNum t) := by
  have S : FnScope ["figures", "number"] ["figures"] (defScope s_read_number) := ⟨rfl, rfl, rfl, by decide +kernel, rfl, by decide +kernel, by decide +kernel⟩
  refine KnownX.of T.h_read_number S (fun vs H Q E h => ?_) (fun f cdv A outer s H vs Q E hr h => ?_)
  · obtain ⟨z, rfl, _⟩ := h
    rfl
  obtain ⟨z, rfl, hz, q1, q2⟩ := h
  refine ⟨_, (pss_cons (ps_if (PW.pt (pw_or (pt_cmpR op_eq (pe_callB call_len_str rfl T.z_len bt_len (pa_cons (pv 0) pa_nil)) pe_int (nomark _)) (pw_or1 (pt_cmpR op_gt (pe_callB call_len_str rfl T.z_len bt_len (pa_cons (pv 0) pa_nil)) (pe_callB call_len_str rfl T.z_len bt_len (pa_cons (pe_callTy call_str_int rfl T.z_str bt_str (pa_cons (pe_globI rfl T.g_MOST_NUMBER) pa_nil)) pa_nil)) (nomark _))))) (pss_one (ps_raise rfl T.m_BadText T.x_BadText))
      pss_nil)
      (pss_cons (ps_if (pt_not (pt_val (pe_callB (call_all_list hr.hd) rfl T.z_all bt_all (pa_cons (pe_comp (N' := ["sign"]) (cap := [none]) rfl (pi_str (pv 0)) (by show scopeOk _ (defScope s_read_number) = true; decide +kernel) (by show capsOk ["figures", "number"] _ _ _ = true; decide +kernel) (fun _ _ _ _ => ⟨(pg_name (i := 0) (show List.Nodup (["sign"] : List Str) by decide +kernel) rfl (by first | exact Or.inl rfl | exact Or.inr rfl)), pf_nil, (pe_cmpR op_in_str (pv 0) (pe_globS rfl T.g_FIGURES) rfl)⟩)) pa_nil)))) (pss_one (ps_raise rfl T.m_BadText T.x_BadText))
      pss_nil)
      (pss_cons (ps_set (i := 1) S.nd rfl (by first | exact Or.inl rfl | exact Or.inr rfl) (pe_callTy call_int_str rfl T.z_int bt_int (pa_cons (pv 0) pa_nil)))
      (pss_cons (ps_if (PW.pt (pw_or (pt_not (pt_val (pe_fn K_is_number hr rfl (pa_cons (pv 1) pa_nil)))) (pw_or1 (pt_cmpR op_ne (pe_callTy call_str_int rfl T.z_str bt_str (pa_cons (pv 1) pa_nil)) (pv 0) (nomark _))))) (pss_one (ps_raise rfl T.m_BadText T.x_BadText))
      pss_nil)
      (pss_one (ps_ret (pv 1))))))), ?_⟩
  walk_at "rd"
  have zs : z.length ≤ sizeLine := Nat.le_trans hz (by decide)
  refine ⟨zs, ?_⟩
  split
  · rename_i h0
    exact q2 (num_none (.inl (by omega))) H (Same.refl H)
  rename_i h0
  refine ⟨zs, by decide, by rw [len5]; decide, ?_⟩
  rw [len5]
  split
  · rename_i h5
    exact q2 (num_none (.inr (.inl (by omega)))) H (Same.refl H)
  rename_i h5
  refine ⟨_, rfl, z, rfl, comp_str (z := z) fFig zs (fun c hc R r => ?_) (fun D hD => ?_)⟩
  · show tOp _ _ _ [some (.str ⟨#[c]⟩)] H R
    walk_at "rd"
    have e := fig_in c
    unfold sFig at e
    rw [e]
    exact r
  rw [all_fig]
  have s1 := Same.upd hD (.lst (((cs z).map fig).map V.bl))
  refine ⟨D, rfl, (cs z).map fig, SqL.of upd_same, ?_⟩
  generalize upd H D (.lst (((cs z).map fig).map V.bl)) = H1 at s1
  have e : ((cs z).map fig).all id = (cs z).all fig := by rw [List.all_map]; rfl
  rw [e]
  split
  · rename_i hf
    exact q2 (num_none (.inr (.inr hf))) _ s1
  rename_i hf
  have hf' : (cs z).all fig = true := by simpa using hf
  have h0' : z.length ≠ 0 := by omega
  have h5' : z.length ≤ 5 := by omega
  have key := num_iff h0' h5' hf'
  have hlt := val_lt hf'
  have hpw : 10 ^ (cs z).length ≤ 10 ^ 5 := Nat.pow_le_pow_right (by decide) (by rw [cs_len]; exact h5')
  refine ⟨_, int_of h0' h5' hf', by omega, ?_⟩
  generalize hn : NumText.digitsVal (cs z) = n at key hlt
  simp only [spNumber]
  walk_at "rd"
  split
  · rename_i hk
    refine q2 ?_ _ s1
    rw [key, if_neg]
    intro c
    rw [okI_iff.mpr ⟨by omega, c.1⟩] at hk
    cases hk
  rename_i hk
  have hk' : okI (n : Int) = true := by simpa using hk
  refine ⟨?_, ?_⟩
  · have : (n : Int).natAbs = n := by omega
    rw [this]
    exact log_small (by omega)
  split
  · rename_i he
    exact q2 (by rw [key, if_neg (fun c => he c.2)]) _ s1
  · rename_i he
    refine q1 n ?_ _ s1
    rw [key, if_pos ⟨(okI_iff.mp hk').2, by simpa using he⟩]
/-- w[:-2], w[-2:] -/
theorem cut_bas (w : Str) : cutS w none (some (-2)) = bas w := by
  have hl := cs_len w
  unfold cutS bas HT.sIx
  simp only [List.drop_zero, Nat.sub_zero]
  rw [if_pos (by decide)]
  have : ((-2 : Int) + (w.length : Int)).toNat = w.length - 2 := by omega
  rw [this]
theorem cut_end2 (w : Str) : cutS w (some (-2)) none = end2 w := by
  have hl := cs_len w
  unfold cutS end2 HT.sIx
  dsimp only
  rw [if_pos (by decide)]
  have : ((-2 : Int) + (w.length : Int)).toNat = w.length - 2 := by omega
  rw [this, List.take_of_length_le]
  rw [List.length_drop]
  unfold cs at hl
  omega
def partOf (z : Str) : Option Int := if end2 z = sSq then numOf (bas z) else none
def spReadPart (t : Adr) : Sp := fun vs H Q E => ∃ z : Str, vs = [.str z] ∧ z.length ≤ 5000 ∧ (∀ n, partOf z = some n → ∀ H', Same H H' → Q (.int n) H') ∧ (partOf z = none → ∀ H', Same H H' → E (.ref t.BadText) none H')
theorem ok_read_part (T : Txt K mg t) (K_read_number : KnownX P w K mg base 3 "read_number" ["figures"] (spReadNum t)) : KnownX P w K mg base 4 "read_part" ["piece"] (spReadPart t) := by
  have S : FnScope ["piece"] ["piece"] (defScope s_read_part) := ⟨rfl, rfl, rfl, by decide +kernel, rfl, by decide +kernel, by decide +kernel⟩
  refine KnownX.of T.h_read_part S (fun vs H Q E h => ?_) (fun f cdv A outer s H vs Q E hr h => ?_)
  · obtain ⟨z, rfl, _⟩ := h
    rfl
  obtain ⟨z, rfl, hz, q1, q2⟩ := h
  refine ⟨_, (pss_cons (ps_if (pt_not (pt_val (pe_bm PySem.F.plainAttrs_str PySem.F.slot_str_endswith PySem.F.type_str_endswith mt_endswith (pv 0) (pa_cons pe_str pa_nil)))) (pss_one (ps_raise rfl T.m_BadText T.x_BadText))
      pss_nil)
      (pss_one (ps_ret (pe_fnX K_read_number pass1 hr rfl (pa_cons (pe_slice sl_str (pv 0) po_none (po_some (pe_un un_neg pe_int))) pa_nil))))), ?_⟩
  walk_at "rd"
  walk_at "rt"
  show if Txt.endswith z sSq = false then _ else _
  rw [ends_iff, cut_bas]
  have zs : z.length ≤ sizeLine := Nat.le_trans hz (by decide)
  split
  · rename_i h
    exact q2 (by unfold partOf; rw [if_neg (by simpa using h)]) H (Same.refl H)
  · rename_i h
    have h' : end2 z = sSq := by simpa using h
    exact ⟨zs, bas z, rfl, Nat.le_trans (bas_len z) hz, fun n hn => q1 n (by unfold partOf; rw [if_pos h']; exact hn), fun hn => q2 (by unfold partOf; rw [if_pos h']; exact hn)⟩
/-- the pieces' numbers -/
def partsOf (z : Str) : Option (List Int) := if 4 < (Txt.split z sPlus).length ∨ ((Txt.split z sPlus).all fun w => decide (end2 w = sSq)) = false then none else nums numOf (Txt.split z sPlus)
def spReadParts (t : Adr) : Sp := fun vs H Q E => ∃ z : Str, vs = [.str z] ∧ z.length ≤ 5000 ∧ (∀ ps, partsOf z = some ps → ∀ l H', Same H H' → H l = none → H' l = some (.lst (ps.map V.int)) → Q (.ref l) H') ∧ (partsOf z = none → ∀ H', Same H H' → E (.ref t.BadText) none H')
def gPart : V → Option V
  | .str w => (partOf w).map V.int
  | _ => none
theorem partsOf_none {z w : Str} (hw : w ∈ Txt.split z sPlus) (h : partOf w = none) : partsOf z = none := by
  unfold partsOf
  split
  · rfl
  · rename_i hc
    have hall : ((Txt.split z sPlus).all fun w => decide (end2 w = sSq)) = true := by
      cases hz : (Txt.split z sPlus).all fun w => decide (end2 w = sSq) with
      | true => rfl
      | false => exact absurd (.inr hz) hc
    have he : end2 w = sSq := by simpa using List.all_eq_true.mp hall w hw
    refine nums_none hw ?_
    unfold partOf at h
    rw [if_pos he] at h
    exact h
theorem gPart_all : ∀ {ws : List Str} {ys : List V}, allSome ((ws.map V.str).map gPart) = some ys → (ws.all fun w => decide (end2 w = sSq)) = true ∧ ∃ ps, nums numOf ws = some ps ∧ ys = ps.map V.int
  | [], ys, h => by
    cases h
    exact ⟨rfl, [], rfl, rfl⟩
  | w :: r, ys, h => by
    have h' : allSome ((partOf w).map V.int :: (r.map V.str).map gPart) = some ys := h
    cases hp : partOf w with
    | none =>
      rw [hp] at h'
      cases h'
    | some n =>
      rw [hp] at h'
      have h2 : (allSome ((r.map V.str).map gPart)).map (V.int n :: ·) = some ys := h'
      cases hr : allSome ((r.map V.str).map gPart) with
      | none => rw [hr] at h2; cases h2
      | some zs =>
        rw [hr] at h2
        cases h2
        obtain ⟨h3, ps, h4, rfl⟩ := gPart_all hr
        unfold partOf at hp
        split at hp
        · rename_i he
          refine ⟨by rw [List.all_cons, h3, decide_eq_true he]; rfl, n :: ps, ?_, rfl⟩
          unfold nums
          rw [hp, h4]
        · cases hp
theorem sPlus_len : sPlus.length = 3 := by rw [cs_sPlus]; rfl
theorem sEq_len : sEq.length = 3 := by rw [cs_sEq]; rfl
theorem ok_read_parts (T : Txt K mg t) (K_read_part : KnownX P w K mg base 4 "read_part" ["piece"] (spReadPart t)) : KnownX P w K mg base 5 "read_parts" ["text"] (spReadParts t) := by
  have S : FnScope ["text", "pieces"] ["text"] (defScope s_read_parts) := ⟨rfl, rfl, rfl, by decide +kernel, rfl, by decide +kernel, by decide +kernel⟩
  refine KnownX.of T.h_read_parts S (fun vs H Q E h => ?_) (fun f cdv A outer s H vs Q E hr h => ?_)
  · obtain ⟨z, rfl, _⟩ := h
    rfl
  obtain ⟨z, rfl, hz, q1, q2⟩ := h
  refine ⟨_, (pss_cons (ps_set (i := 1) S.nd rfl (by first | exact Or.inl rfl | exact Or.inr rfl) (pe_bm PySem.F.plainAttrs_str PySem.F.slot_str_split PySem.F.type_str_split mt_split (pv 0) (pa_cons pe_str pa_nil)))
      (pss_cons (ps_if (pt_cmpR op_gt (pe_callB call_len_seq rfl T.z_len bt_len (pa_cons (pv 1) pa_nil)) (pe_globI rfl T.g_MOST_PARTS) (nomark _)) (pss_one (ps_raise rfl T.m_BadText T.x_BadText))
      pss_nil)
      (pss_one (ps_ret (pe_compX (N' := ["piece"]) (cap := [none]) (fun hfr _ _ _ _ _ _ _ => flb_end hfr) rfl (pi_list (pv 1)) (by show scopeOk _ (defScope s_read_parts) = true; decide +kernel) (by show capsOk ["text", "pieces"] _ _ _ = true; decide +kernel) (fun _ _ _ _ _ hp => ⟨(pg_name (i := 0) (show List.Nodup (["piece"] : List Str) by decide +kernel) rfl (by first | exact Or.inl rfl | exact Or.inr rfl)), pf_nil, (pe_fnX K_read_part hp hr rfl (pa_cons (pv 0) pa_nil))⟩)))))), ?_⟩
  walk_at "rd"
  walk_at "rt"
  have zs : z.length ≤ sizeLine := Nat.le_trans hz (by decide)
  have z1 : z.length + 1 ≤ sizeLine := Nat.le_trans (Nat.succ_le_succ hz) (by decide)
  have hy : 1 ≤ sPlus.length := by rw [sPlus_len]; decide
  have hsl := split_len z sPlus hy kind_sPlus
  refine ⟨by decide +kernel, zs, Nat.le_trans (between_len z sPlus hy) z1, Nat.le_trans hsl z1, fun l hl => ⟨_, .inl (SqL.of upd_same), ?_⟩⟩
  rw [List.length_map]
  show if 4 < ((Txt.split z sPlus).length : Int) then E (Value.ref t.BadText) none (upd H l (HO.lst ((Txt.split z sPlus).map V.str))) else _
  have s1 := Same.upd hl (.lst ((Txt.split z sPlus).map V.str))
  split
  · rename_i h4
    exact q2 (by unfold partsOf; rw [if_pos (.inl (by omega))]) _ s1
  rename_i h4
  refine ⟨_, rfl, l, rfl, ⟨_, SqL.of upd_same⟩, comp_listX gPart (SqL.of upd_same) (by rw [List.length_map]; exact Nat.le_trans hsl z1) (fun x hx H1 s2 R r => ?_) (fun D ys H' ey sm h0 hD => ?_)⟩
  · obtain ⟨w, hw, rfl⟩ := List.mem_map.mp hx
    refine ⟨_, rfl, ?_⟩
    show spReadPart t [.str w] H1 R E
    exact ⟨w, rfl, Nat.le_trans (split_le hy kind_sPlus w hw) hz, fun n hn H2 s3 => r (.int n) (by show (partOf w).map V.int = _; rw [hn]; rfl) H2 s3, fun hn H2 s3 => q2 (partsOf_none hw hn) H2 ((s1.trans s2).trans s3)⟩
  · obtain ⟨ha, ps, hp, rfl⟩ := gPart_all (ws := Txt.split z sPlus) ey
    refine q1 ps ?_ D H' (s1.trans sm) (s1.free h0) hD
    unfold partsOf
    rw [if_neg]
    · exact hp
    · rintro (z1 | z1)
      · have z2 : 4 < (Txt.split z sPlus).length := z1
        omega
      · rw [ha] at z1
        cases z1
def tupAt (H : Hp) (p l : Addr) (n : Int) (ps : List Int) : Prop := H l = some (.lst (ps.map V.int)) ∧ H p = some (.tup [.int n, .ref l])
/-- what may be handed in: a text; or something else -/
def noTxt (H : Hp) (x : V) : Prop := x = .non ∨ (∃ i, x = .int i) ∨ (∃ b, x = .bl b) ∨ ∃ a xs, x = .ref a ∧ H a = some (.lst xs)
def spRead (t : Adr) : Sp := fun vs H Q E => ∃ x, vs = [x] ∧ ((∃ z : Str, x = .str z ∧ z.length ≤ 5000 ∧
    (∀ n ps, lawIn z = some (n, ps) → ∀ p l H', Same H H' → H l = none → H p = none → tupAt H' p l n ps → Q (.ref p) H') ∧ (lawIn z = none → ∀ H', Same H H' → E (.ref t.BadText) none H')) ∨
  (noTxt H x ∧ ∀ H', Same H H' → E (.ref t.BadText) none H'))
theorem readX_of {z h u : Str} (e : Txt.split z sEq = [h, u]) : lawIn z = (match numOf h with | none => none | some n => (match partsOf u with | none => none | some ps => if riseB ps = true ∧ sumSq ps = n then some (n, ps) else none)) := by
  rw [← read_eq]
  unfold readX
  rw [e]
  dsimp only
  cases numOf h with
  | none => rfl
  | some n =>
    dsimp only
    unfold readT partsOf
    split
    · rfl
    · rfl
theorem lawIn_ne {z : Str} (h : (Txt.split z sEq).length ≠ 2) : lawIn z = none := by
  rw [← read_eq]
  unfold readX
  cases hs : Txt.split z sEq with
  | nil => rfl
  | cons a r =>
    cases r with
    | nil => rfl
    | cons b r =>
      cases r with
      | nil => rw [hs] at h; exact absurd rfl h
      | cons c r => rfl
theorem rise_iff : ∀ ps : List Int, riseB ps = decide (ps.Pairwise (· ≤ ·))
  | [] => by simp [riseB]
  | [a] => by simp [riseB]
  | a :: b :: r => by
    have ih := rise_iff (b :: r)
    rw [Bool.eq_iff_iff] at ih ⊢
    unfold riseB
    rw [Bool.and_eq_true, decide_eq_true_eq, ih, decide_eq_true_eq, decide_eq_true_eq]
    constructor
    · rintro ⟨h1, h2⟩
      refine List.pairwise_cons.mpr ⟨fun c hc => ?_, h2⟩
      rcases List.mem_cons.mp hc with rfl | hc
      · exact h1
      · exact Int.le_trans h1 ((List.pairwise_cons.mp h2).1 c hc)
    · intro h
      exact ⟨(List.pairwise_cons.mp h).1 b (List.mem_cons_self ..), (List.pairwise_cons.mp h).2⟩
theorem parts_iff {ps : List Int} {n : Int} (h : ∀ p ∈ ps, 0 ≤ p ∧ p ≤ 10000) : partsB ps n = decide (riseB ps = true ∧ sumSq ps = n) := by
  have h1 : ps.all okI = true := List.all_eq_true.mpr fun p hp => okI_iff.mpr (h p hp)
  unfold partsB
  have h2 := rise_iff ps
  rw [h1, Bool.true_and, Bool.eq_iff_iff, Bool.and_eq_true, ← h2, decide_eq_true_eq, decide_eq_true_eq]
  rfl
theorem nums_ok : ∀ {ws : List Str} {ps : List Int}, nums numOf ws = some ps → ∀ p ∈ ps, 0 ≤ p ∧ p ≤ 10000
  | [], ps, h, p, hp => by
    cases h
    cases hp
  | w :: r, ps, h, p, hp => by
    unfold nums at h
    split at h
    · rename_i n ns h1 h2
      cases h
      rcases List.mem_cons.mp hp with rfl | hp
      · have := num_some h1
        exact ⟨(count_some this.1).1, this.2⟩
      · exact nums_ok h2 p hp
    · cases h
theorem partsOf_ok {u : Str} {ps : List Int} (h : partsOf u = some ps) : (∀ p ∈ ps, 0 ≤ p ∧ p ≤ 10000) ∧ ps.length ≤ 4 := by
  unfold partsOf at h
  split at h
  · cases h
  · rename_i hc
    refine ⟨nums_ok h, ?_⟩
    rw [nums_len h]
    rcases Nat.lt_or_ge 4 (Txt.split u sPlus).length with z | z
    · exact absurd (.inl z) hc
    · exact z
theorem inst_ss (K : PySem.W.Frag) (H : Hp) (z : Str) : Inst K H (.str z) (.type "str") true := ⟨_, .str z, kit_tt K _⟩
theorem inst_no {K : PySem.W.Frag} {H : Hp} {x : V} (h : noTxt H x) : Inst K H x (.type "str") false := by
  rcases h with rfl | ⟨i, rfl⟩ | ⟨b, rfl⟩ | ⟨a, xs, rfl, e⟩
  · exact ⟨_, .non, by rfl⟩
  · exact ⟨_, .int i, by rfl⟩
  · exact ⟨_, .bl b, by rfl⟩
  · exact ⟨_, .lst e, by rfl⟩
theorem ok_read (T : Txt K mg t) (K_read_number : KnownX P w K mg base 3 "read_number" ["figures"] (spReadNum t)) (K_read_parts : KnownX P w K mg base 5 "read_parts" ["text"] (spReadParts t)) (K_are_parts_of : Known P w K mg base 3 "are_parts_of" ["parts", "number"] spParts) :
    KnownX P w K mg base 6 "read" ["text"] (spRead t) := by
  have S : FnScope ["text", "sides", "number", "parts"] ["text"] (defScope s_read) := ⟨rfl, rfl, rfl, by decide +kernel, rfl, by decide +kernel, by decide +kernel⟩
  refine KnownX.of T.h_read S (fun vs H Q E h => ?_) (fun f cdv A outer s H vs Q E hr h => ?_)
  · obtain ⟨z, rfl, _⟩ := h
    rfl
  obtain ⟨x, rfl, h⟩ := h
  refine ⟨_, (pss_cons (ps_if (pt_not (pt_val (pe_callB call_isinst rfl T.z_isinstance bt_isinstance (pa_cons (pv 0) (pa_cons (pe_ty rfl T.z_str bt_str) pa_nil))))) (pss_one (ps_raise rfl T.m_BadText T.x_BadText))
      pss_nil)
      (pss_cons (ps_set (i := 1) S.nd rfl (by first | exact Or.inl rfl | exact Or.inr rfl) (pe_bm PySem.F.plainAttrs_str PySem.F.slot_str_split PySem.F.type_str_split mt_split (pv 0) (pa_cons pe_str pa_nil)))
      (pss_cons (ps_if (pt_cmpR op_ne (pe_callB call_len_seq rfl T.z_len bt_len (pa_cons (pv 1) pa_nil)) pe_int (nomark _)) (pss_one (ps_raise rfl T.m_BadText T.x_BadText))
      pss_nil)
      (pss_cons (ps_set (i := 2) S.nd rfl (by first | exact Or.inl rfl | exact Or.inr rfl) (pe_fnX K_read_number pass1 (hr.mono (by decide : 3 ≤ 5)) rfl (pa_cons (pe_ix ix_list (pv 1) pe_int (fun _ _ => rfl)) pa_nil)))
      (pss_cons (ps_set (i := 3) S.nd rfl (by first | exact Or.inl rfl | exact Or.inr rfl) (pe_fnX K_read_parts pass1 hr rfl (pa_cons (pe_ix ix_list (pv 1) pe_int (fun _ _ => rfl)) pa_nil)))
      (pss_cons (ps_if (pt_not (pt_val (pe_fn K_are_parts_of (hr.mono (by decide : 3 ≤ 5)) rfl (pa_cons (pv 3) (pa_cons (pv 2) pa_nil))))) (pss_one (ps_raise rfl T.m_BadText T.x_BadText))
      pss_nil)
      (pss_one (ps_ret (pe_tup (pa_cons (pv 2) (pa_cons (pv 3) pa_nil))))))))))), ?_⟩
  rcases h with ⟨z, rfl, hz, q1, q2⟩ | ⟨hx, q2⟩
  · walk_at "rd"
    refine ⟨true, inst_ss K H z, ?_⟩
    walk_at "rt"
    have zs : z.length ≤ sizeLine := Nat.le_trans hz (by decide)
    have z1 : z.length + 1 ≤ sizeLine := Nat.le_trans (Nat.succ_le_succ hz) (by decide)
    have hy : 1 ≤ sEq.length := by rw [sEq_len]; decide
    refine ⟨by decide +kernel, zs, Nat.le_trans (between_len z sEq hy) z1, Nat.le_trans (split_len z sEq hy kind_sEq) z1, fun l hl => ⟨_, .inl (SqL.of upd_same), ?_⟩⟩
    rw [List.length_map]
    show if ¬ ((Txt.split z sEq).length : Int) = 2 then E (Value.ref t.BadText) none (upd H l (HO.lst ((Txt.split z sEq).map V.str))) else _
    have s1 := Same.upd hl (.lst ((Txt.split z sEq).map V.str))
    rcases sides z with ⟨e1, _⟩ | ⟨h, u, e1, _, _, hhl, hul⟩ | ⟨_, n2, _⟩
    · rw [if_pos (by rw [e1]; simp)]
      exact q2 (lawIn_ne (by rw [e1]; simp)) _ s1
    · have e1' : Txt.split z (Str.ofString " = ") = [h, u] := e1
      rw [if_neg (by rw [e1]; exact fun c => c rfl), e1']
      rw [e1] at s1
      have key := readX_of e1
      refine ⟨l, _, 0, .str h, rfl, rfl, SqL.of upd_same, atI_nat (j := 0) rfl, ?_⟩
      have hl1 : upd H l (HO.lst ([h, u].map V.str)) l = some (HO.lst ([h, u].map V.str)) := upd_same
      generalize upd H l (HO.lst ([h, u].map V.str)) = H1 at s1 hl1
      refine ⟨h, rfl, Nat.le_trans hhl hz, fun n hn H2 s2 => ?_, fun hn H2 s2 => q2 (by rw [key, hn]) H2 (s1.trans s2)⟩
      refine ⟨l, _, 1, .str u, rfl, rfl, SqL.of (s2 _ _ hl1), atI_nat (j := 1) rfl, ?_⟩
      refine ⟨u, rfl, Nat.le_trans hul hz, fun ps hp l2 H3 s3 h0 hl2 => ?_, fun hp H3 s3 => q2 (by rw [key, hn]; dsimp only; rw [hp]) H3 ((s1.trans s2).trans s3)⟩
      obtain ⟨ok, h4⟩ := partsOf_ok hp
      refine ⟨l2, ps, n, rfl, hl2, by omega, fun H4 s4 => ⟨_, rfl, ?_⟩⟩
      rw [parts_iff ok]
      have s14 := ((s1.trans s2).trans s3).trans s4
      by_cases hg : riseB ps = true ∧ sumSq ps = n
      · rw [decide_eq_true hg, if_neg (by decide)]
        refine ⟨by decide, fun p hp0 => q1 n ps (by rw [key, hn]; dsimp only; rw [hp]; dsimp only; rw [if_pos hg]) p l2 _ (s14.trans (Same.upd hp0 _)) ((s1.trans s2).free h0) (s14.free hp0) ⟨Same.upd hp0 _ _ _ (s4 _ _ hl2), upd_same⟩⟩
      · rw [decide_eq_false hg, if_pos rfl]
        exact q2 (by rw [key, hn]; dsimp only; rw [hp]; dsimp only; rw [if_neg hg]) _ s14
    · rw [if_pos (by omega)]
      exact q2 (lawIn_ne n2) _ s1
  · walk_at "rd"
    refine ⟨false, inst_no hx, ?_⟩
    walk_at "rd"
    exact q2 H (Same.refl H)
end
end Sq

namespace Sq
open PySem L2 Tx
local macro_rules | `(tactic| walk_at "rd") => `(tactic| simp only [L2.start, List.map_cons, List.map_nil, List.length_cons, List.length_nil, List.replicate, List.cons_append, List.nil_append, List.append_nil, Nat.sub_self, Nat.reduceAdd, Nat.reduceSub,
  tSeq, tRet, tRetN, tNext, tIfS, tDrop, tAsg, tPar, gName, gNil, gCons, gTup, tVar, tC, tOp, tUn, rI, rI0, rU, rEq, rNe, scal_ii, scal_ss, scal_bb, tTest, tB, tAnd, tOr, tNot, tAndV, tOrV, tNotV, tIf, tCB, tCons, tNil, tCall, tChain, tChain3, tLst, tTup, tDGet, tDGet2, tDIn, sDPut, tDNewK, okC, clsV, cxOf_K,
  List.getElem?_cons_zero, List.getElem?_cons_succ, Option.some.injEq, exists_eq_left', exists_eq_left, exists_eq_right, exists_and_left, and_assoc, V.int.injEq, V.bl.injEq, V.ref.injEq, V.str.injEq, List.cons.injEq, and_true, true_and, List.set_cons_zero, List.set_cons_succ,
  if_true, if_false, ↓reduceIte, Bool.false_eq_true, Bool.true_eq_false, Bool.not_true, Bool.not_false, Bool.not_eq_true', decide_eq_true_eq, decide_eq_false_iff_not])
local macro_rules | `(tactic| walk_at "rs") => `(tactic| simp only [L2.start, List.map_cons, List.map_nil, List.length_cons, List.length_nil, List.replicate, List.cons_append, List.nil_append, List.append_nil, Nat.sub_self, Nat.reduceAdd, Nat.reduceSub, cxOf_K])

set_option maxHeartbeats 2000000
local macro_rules | `(tactic| walk_at "rt") => `(tactic| (simp only [tBM, tyV, rEndswith, rSplit, rStrip, rPartition, rJoin, tSl, rSlS, tNoPart, tPart, tJoined, jCons, jNil, tFmt]; walk_at "rd"))
/-! k08: what is written -/
def spAreFew : Sp := fun vs H Q _ => ∃ (p : Addr) (ns : List Int), vs = [.ref p] ∧ H p = some (.lst (ns.map V.int)) ∧ Q (.bl (decide (1 ≤ ns.length) && decide (ns.length ≤ 4))) H
def spWritten : Sp := fun vs H Q _ => ∃ (n : Int) (p : Addr) (ns : List Int), vs = [.int n, .ref p] ∧ H p = some (.lst (ns.map V.int)) ∧ okI n = true ∧ 1 ≤ ns.length ∧ ns.length ≤ 4 ∧ partsB ns n = true ∧ ∀ H', Same H H' → Q (.str (wr n ns)) H'
section
variable {P : Program} {w : World} {K : PySem.W.Frag} {mg : Str → Option Value} {base : Heap} {t : Adr}
theorem ok_are_few (T : Txt K mg t) : Known P w K mg base 1 "are_few" ["parts"] spAreFew := by
  have S : FnScope ["parts"] ["parts"] (defScope s_are_few) := ⟨rfl, rfl, rfl, by decide +kernel, rfl, by decide +kernel, by decide +kernel⟩
  refine Known.of T.h_are_few S (fun vs H Q E h => ?_) (fun f cdv A outer s H vs Q E hr h => ?_)
  · obtain ⟨p, ns, rfl, _⟩ := h
    rfl
  obtain ⟨p, ns, rfl, hp, q⟩ := h
  refine ⟨_, (pss_one (ps_ret (pe_and (pe_callB call_isinst rfl T.z_isinstance bt_isinstance (pa_cons (pv 0) (pa_cons (pe_ty rfl T.z_list bt_list) pa_nil))) (pe_one (pe_chain op_le op_le pe_int (pe_callB call_len_seq rfl T.z_len bt_len (pa_cons (pv 0) pa_nil)) (pe_globI rfl T.g_MOST_PARTS)))))), ?_⟩
  walk_at "rd"
  refine ⟨true, inst_ll hp, ?_⟩
  walk_at "rd"
  refine ⟨_, .inl (SqL.of hp), ?_⟩
  rw [List.length_map]
  have e1 : decide ((ns.length : Int) ≤ 4) = decide (ns.length ≤ 4) := by
    rw [Bool.eq_iff_iff, decide_eq_true_eq, decide_eq_true_eq]
    omega
  rw [e1]
  split
  · rename_i h
    rw [decide_eq_true (show 1 ≤ ns.length by omega), Bool.true_and] at q
    exact q
  · rename_i h
    rw [decide_eq_false (show ¬ 1 ≤ ns.length by omega), Bool.false_and] at q
    exact q
def fWr : V → V
  | .int v => .str (Str.ofString (toString v) ++ sSq)
  | x => x
theorem map_fWr (ns : List Int) : (ns.map V.int).map fWr = (ns.map fun p => Str.ofString (toString p) ++ sSq).map V.str := by
  rw [List.map_map, List.map_map]
  rfl
theorem num_len {v : Int} (h0 : 0 ≤ v) (h1 : v ≤ 10000) : (Str.ofString (toString v)).length ≤ 10 := PySem.W.KT.len_num h0 (by omega)
theorem piece_len {v : Int} (h0 : 0 ≤ v) (h1 : v ≤ 10000) : (Str.ofString (toString v) ++ sSq).length ≤ 12 := by
  rw [Str.length_append]
  have := num_len h0 h1
  have : sSq.length = 2 := by rw [cs_sSq]; rfl
  omega
theorem join_len (sep : Str) : ∀ l : List Str, (Str.join sep l).length ≤ (l.map (·.length)).sum + l.length * sep.length
  | [] => Nat.zero_le _
  | [x] => by
    show x.length ≤ _
    simp
  | x :: y :: r => by
    have ih := join_len sep (y :: r)
    show (x ++ sep ++ Str.join sep (y :: r)).length ≤ _
    rw [Str.length_append, Str.length_append]
    simp only [List.map_cons, List.sum_cons, List.length_cons, Nat.add_mul] at ih ⊢
    omega
theorem pieces_sum : ∀ {ns : List Int}, (∀ p ∈ ns, 0 ≤ p ∧ p ≤ 10000) → ((ns.map fun p => Str.ofString (toString p) ++ sSq).map (·.length)).sum ≤ ns.length * 12
  | [], _ => by simp
  | p :: r, h => by
    have ih := pieces_sum (ns := r) fun q hq => h q (List.mem_cons_of_mem _ hq)
    have hp := piece_len (h p (List.mem_cons_self ..)).1 (h p (List.mem_cons_self ..)).2
    simp only [List.map_cons, List.sum_cons, List.length_cons, Nat.add_mul] at ih ⊢
    omega
theorem joined_len {ns : List Int} (h4 : ns.length ≤ 4) (h : ∀ p ∈ ns, 0 ≤ p ∧ p ≤ 10000) : (Str.join sPlus (ns.map fun p => Str.ofString (toString p) ++ sSq)).length ≤ 60 := by
  have a := join_len sPlus (ns.map fun p => Str.ofString (toString p) ++ sSq)
  have b := pieces_sum h
  rw [List.length_map, sPlus_len] at a
  omega
theorem join_ok {ns : List Int} (h4 : ns.length ≤ 4) (h : ∀ p ∈ ns, 0 ≤ p ∧ p ≤ 10000) : JoinOk sPlus (ns.map fun p => Str.ofString (toString p) ++ sSq) = true := by
  unfold JoinOk
  rw [Bool.not_eq_true']
  refine StrLaws.joinFits (B := 12) (fun y hy => ?_) ?_
  · obtain ⟨p, hp, rfl⟩ := List.mem_map.mp hy
    exact piece_len (h p hp).1 (h p hp).2
  · rw [List.length_map, sPlus_len]
    omega
theorem log_ok {v : Int} (h0 : 0 ≤ v) (h1 : v ≤ 10000) : v.natAbs.log2 < 1920 := log_small (by omega)
theorem ok_written (T : Txt K mg t) (K_refuse_no_number : Known P w K mg base 3 "refuse_no_number" ["value"] spRefuse) (K_are_few : Known P w K mg base 1 "are_few" ["parts"] spAreFew) (K_are_parts_of : Known P w K mg base 3 "are_parts_of" ["parts", "number"] spParts) :
    Known P w K mg base 4 "written" ["number", "parts"] spWritten := by
  have S : FnScope ["number", "parts", "right"] ["number", "parts"] (defScope s_written) := ⟨rfl, rfl, rfl, by decide +kernel, rfl, by decide +kernel, by decide +kernel⟩
  refine Known.of T.h_written S (fun vs H Q E h => ?_) (fun f cdv A outer s H vs Q E hr h => ?_)
  · obtain ⟨n, p, ns, rfl, _⟩ := h
    rfl
  obtain ⟨n, p, ns, rfl, hp, hn, h1, h4, hb, q⟩ := h
  refine ⟨_, (pss_cons (ps_expr (pe_fn K_refuse_no_number hr rfl (pa_cons (pv 0) pa_nil)))
      (pss_cons (ps_if (PW.pt (pw_or (pt_not (pt_val (pe_fn K_are_few (hr.mono (by decide : 1 ≤ 3)) rfl (pa_cons (pv 1) pa_nil)))) (pw_or1 (pt_not (pt_val (pe_fn K_are_parts_of hr rfl (pa_cons (pv 1) (pa_cons (pv 0) pa_nil)))))))) (pss_one ps_never)
      pss_nil)
      (pss_cons (ps_set (i := 2) S.nd rfl (by first | exact Or.inl rfl | exact Or.inr rfl) (pe_bm PySem.F.plainAttrs_str PySem.F.slot_str_join PySem.F.type_str_join mt_join pe_str (pa_cons (pe_comp (N' := ["part"]) (cap := [none]) rfl (pi_list (pv 1)) (by show scopeOk _ (defScope s_written) = true; decide +kernel) (by show capsOk ["number", "parts", "right"] _ _ _ = true; decide +kernel) (fun _ _ _ _ => ⟨(pg_name (i := 0) (show List.Nodup (["part"] : List Str) by decide +kernel) rfl (by first | exact Or.inl rfl | exact Or.inr rfl)), pf_nil, (pe_joined (pj_cons (pe_fmt (pv 0)) (pj_cons pe_str pj_nil)))⟩)) pa_nil)))
      (pss_one (ps_ret (pe_joined (pj_cons (pe_fmt (pv 0)) (pj_cons pe_str (pj_cons (pe_fmt (pv 2)) pj_nil))))))))), ?_⟩
  walk_at "rd"
  walk_at "rt"
  refine ⟨n, rfl, hn, p, ns, rfl, hp, _, rfl, ?_⟩
  rw [decide_eq_true h1, decide_eq_true h4, if_neg (by decide)]
  refine ⟨p, ns, n, rfl, hp, by omega, fun H1 s1 => ⟨_, rfl, ?_⟩⟩
  rw [hb, if_neg (by decide)]
  have hp1 := s1 _ _ hp
  have ok : ∀ v ∈ ns, 0 ≤ v ∧ v ≤ 10000 := fun v hv => by
    unfold partsB at hb
    rw [Bool.and_eq_true] at hb
    exact okI_iff.mp (List.all_eq_true.mp hb.1 v hv)
  have hn' := okI_iff.mp hn
  refine ⟨_, rfl, p, rfl, ⟨_, SqL.of hp1⟩, comp_list fWr (SqL.of hp1) (by rw [List.length_map]; exact Nat.le_of_lt (small1000 (by omega))) (fun x hx R r => ?_) (fun D hD => ?_)⟩
  · obtain ⟨v, hv, rfl⟩ := List.mem_map.mp hx
    have hv' := ok v hv
    show tJoined _ [some (.int v)] H1 R
    walk_at "rt"
    simp only [Str.empty_append]
    have l1 : (Str.ofString (toString v)).length ≤ sizeLine := Nat.le_trans (num_len hv'.1 hv'.2) (by decide)
    have l2 : (Str.ofString (toString v) ++ Str.ofString "^2").length ≤ sizeLine := Nat.le_trans (piece_len hv'.1 hv'.2) (by decide)
    exact .inl ⟨log_ok hv'.1 hv'.2, l1, l2, l2, r⟩
  rw [map_fWr]
  have s2 := Same.upd hD (.lst ((ns.map fun p => Str.ofString (toString p) ++ sSq).map V.str))
  refine ⟨D, rfl, ns.map fun p => Str.ofString (toString p) ++ sSq, SqL.of upd_same, join_ok h4 ok, ?_⟩
  simp only [Str.empty_append]
  have n10 := num_len hn'.1 hn'.2
  have j60 := joined_len h4 ok
  have l1 : (Str.ofString (toString n)).length ≤ sizeLine := Nat.le_trans n10 (by decide)
  have l2 : (Str.ofString (toString n) ++ sEq).length ≤ sizeLine := by
    rw [Str.length_append, sEq_len]
    exact Nat.le_trans (Nat.add_le_add_right n10 3) (by decide)
  have l3 : (Str.join sPlus (ns.map fun p => Str.ofString (toString p) ++ sSq)).length ≤ sizeLine := Nat.le_trans j60 (by decide)
  have l4 : (Str.ofString (toString n) ++ sEq ++ Str.join sPlus (ns.map fun p => Str.ofString (toString p) ++ sSq)).length ≤ sizeLine := by
    rw [Str.length_append, Str.length_append, sEq_len]
    exact Nat.le_trans (Nat.add_le_add (Nat.add_le_add_right n10 3) j60) (by decide)
  exact .inl ⟨log_ok hn'.1 hn'.2, l1, l2, .inr ⟨l3, l4, l4, q _ (s1.trans s2)⟩⟩
/-! k08: the law's own reading -/
def cV : Option Int → V
  | some n => .int n
  | none => .non
def spCount : Sp := fun vs H Q _ => ∃ z : Str, vs = [.str z] ∧ z.length ≤ 5000 ∧ Q (cV (count z)) H
theorem ok_law_count (T : Txt K mg t) : Known P w K mg base 1 "_law_count" ["_law_text"] spCount := by
  have S : FnScope ["_law_text"] ["_law_text"] (defScope s__law_count) := ⟨rfl, rfl, rfl, by decide +kernel, rfl, by decide +kernel, by decide +kernel⟩
  refine Known.of T.h__law_count S (fun vs H Q E h => ?_) (fun f cdv A outer s H vs Q E hr h => ?_)
  · obtain ⟨z, rfl, _⟩ := h
    rfl
  obtain ⟨z, rfl, hz, q⟩ := h
  refine ⟨_, (pss_cons (ps_if (PW.pt (pw_or (pt_cmpR op_eq (pv 0) pe_str (nomark _)) (pw_or (pt_cmpR op_gt (pe_callB call_len_str rfl T.z_len bt_len (pa_cons (pv 0) pa_nil)) pe_int (nomark _)) (pw_or (pt_cmpR op_ne (pe_bm PySem.F.plainAttrs_str PySem.F.slot_str_strip PySem.F.type_str_strip mt_strip (pv 0) (pa_cons pe_str pa_nil)) pe_str (nomark _)) (pw_or1 (PW.pt (pw_and (pt_cmpR op_eq (pe_ix ix_str (pv 0) pe_int (fun _ _ => rfl)) pe_str (nomark _)) (pw_and1 (pt_cmpR op_ne (pv 0) pe_str (nomark _)))))))))) (pss_one (ps_ret pe_non))
      pss_nil)
      (pss_one (ps_ret (pe_callTy call_int_str rfl T.z_int bt_int (pa_cons (pv 0) pa_nil))))), ?_⟩
  walk_at "rd"
  walk_at "rt"
  have zs : z.length ≤ sizeLine := Nat.le_trans hz (by decide)
  have s0 : Str.ofString "0" = ⟨#[48]⟩ := by decide +kernel
  have se : Str.ofString "" = Str.empty := by decide +kernel
  have none_of : count z = none → Q V.non H := fun e => by
    rw [e] at q
    exact q
  rw [se, s0]
  split
  · rename_i h
    exact none_of (by unfold count; rw [if_pos (.inl (by rw [h]; rfl))])
  rename_i h0
  have hl0 : z.length ≠ 0 := fun e => h0 (cs_ext (by
    have := cs_len z
    rw [e] at this
    rw [List.length_eq_zero_iff.mp this]
    rfl))
  refine ⟨zs, ?_⟩
  split
  · rename_i h
    exact none_of (by unfold count; rw [if_pos (.inr (.inl (by omega)))])
  rename_i h5
  refine ⟨zs, ?_⟩
  have hs := strip_fig z
  split
  · rename_i h
    exact none_of (by unfold count; rw [if_pos (.inr (.inr (.inl (by rw [← hs]; exact decide_eq_false h))))])
  rename_i h
  have hf : (cs z).all fig = true := by
    rw [← hs]
    exact decide_eq_true (Classical.byContradiction h)
  obtain ⟨c, r, hc⟩ : ∃ c r, cs z = c :: r := by
    cases hcs : cs z with
    | nil => exact absurd (by rw [← cs_len, hcs]; rfl) hl0
    | cons c r => exact ⟨c, r, rfl⟩
  have hint := int_of hl0 (by omega) hf
  have some_of : okN (cs z) = true → ∃ x, PySem.intText? z = some x ∧ z.length ≤ 640 ∧ Q (V.int x) H := fun ho => by
    have e : count z = some ((NumText.digitsVal (cs z) : Nat) : Int) := by
      unfold count
      rw [if_neg]
      rintro (y | y | y | y)
      · exact hl0 y
      · omega
      · rw [hf] at y
        cases y
      · rw [ho] at y
        cases y
    rw [e] at q
    exact ⟨_, hint, Nat.le_trans (show z.length ≤ 5 by omega) (by decide), q⟩
  refine ⟨z, 0, c, rfl, rfl, zs, atI_nat (j := 0) (by show (cs z)[0]? = some c; rw [hc]; rfl), rfl, ?_⟩
  by_cases hc48 : c = 48
  · subst hc48
    rw [if_pos rfl]
    split
    · rename_i hz0
      have ho : okN (cs z) = false := by
        rw [hc]
        cases r with
        | nil => exact absurd (cs_ext (by rw [hc])) hz0
        | cons b r => rfl
      refine none_of ?_
      unfold count
      rw [if_pos (.inr (.inr (.inr ho)))]
    · rename_i hz0
      have hz0' : z = ⟨#[48]⟩ := by simpa using hz0
      exact some_of (by rw [hz0']; rfl)
  · rw [if_neg (by intro e; cases e; exact hc48 rfl)]
    refine some_of ?_
    rw [hc]
    cases r with
    | nil => rfl
    | cons b r =>
      show (c != 48) = true
      simpa using hc48
def fEnd : V → V
  | .str w => .bl (decide (end2 w = sSq))
  | x => x
theorem map_fEnd (ws : List Str) : (ws.map V.str).map fEnd = (ws.map fun w => decide (end2 w = sSq)).map V.bl := by
  rw [List.map_map, List.map_map]
  rfl
def fCnt : V → V
  | .str w => cV (count (bas w))
  | x => x
theorem map_fCnt (ws : List Str) : (ws.map V.str).map fCnt = ws.map fun w => cV (count (bas w)) := by
  rw [List.map_map]
  rfl
theorem flat_cnt (ws : List Str) : (ws.map fun w => cV (count (bas w))).all flatV = true := by
  rw [List.all_eq_true]
  intro x hx
  obtain ⟨w, _, rfl⟩ := List.mem_map.mp hx
  cases count (bas w) <;> rfl
theorem cnt_in : ∀ ws : List Str, inV .non (ws.map fun w => cV (count (bas w))) = (nums count ws).isNone
  | [] => rfl
  | w :: r => by
    have ih := cnt_in r
    unfold inV at ih ⊢
    rw [List.map_cons, List.any_cons, ih]
    conv => rhs; unfold nums
    cases count (bas w) with
    | none => rfl
    | some n =>
      cases nums count r with
      | none => rfl
      | some ns => rfl
theorem cnt_ints : ∀ {ws : List Str} {ps : List Int}, nums count ws = some ps → (ws.map fun w => cV (count (bas w))) = ps.map V.int
  | [], ps, h => by cases h; rfl
  | w :: r, ps, h => by
    unfold nums at h
    split at h
    · rename_i n ns h1 h2
      cases h
      rw [List.map_cons, List.map_cons, cnt_ints h2, h1]
      rfl
    · cases h
def spIn : Sp := fun vs H Q _ => ∃ z : Str, vs = [.str z] ∧ z.length ≤ 5000 ∧ (∀ n ps, lawIn z = some (n, ps) → ∀ p l H', Same H H' → H l = none → H p = none → tupAt H' p l n ps → Q (.ref p) H') ∧ (lawIn z = none → ∀ H', Same H H' → Q .non H')
theorem ok_law_in (T : Txt K mg t) (K__law_count : Known P w K mg base 1 "_law_count" ["_law_text"] spCount) : Known P w K mg base 2 "_law_in" ["_law_text"] spIn := by
  have S : FnScope ["_law_text", "_law_head", "_law_sign", "_law_tail", "_law_words", "_law_parts"] ["_law_text"] (defScope s__law_in) := ⟨rfl, rfl, rfl, by decide +kernel, rfl, by decide +kernel, by decide +kernel⟩
  refine Known.of T.h__law_in S (fun vs H Q E h => ?_) (fun f cdv A outer s H vs Q E hr h => ?_)
  · obtain ⟨z, rfl, _⟩ := h
    rfl
  obtain ⟨z, rfl, hz, q1, q2⟩ := h
  refine ⟨_, (pss_cons (ps_asg (pe_bm PySem.F.plainAttrs_str PySem.F.slot_str_partition PySem.F.type_str_partition mt_partition (pv 0) (pa_cons pe_str pa_nil)) (pg_tup (n := 3) rfl (pgs_cons (pg_name (i := 1) S.nd rfl (by first | exact Or.inl rfl | exact Or.inr rfl)) (pgs_cons (pg_name (i := 2) S.nd rfl (by first | exact Or.inl rfl | exact Or.inr rfl)) (pgs_cons (pg_name (i := 3) S.nd rfl (by first | exact Or.inl rfl | exact Or.inr rfl)) pgs_nil)))))
      (pss_cons (ps_set (i := 4) S.nd rfl (by first | exact Or.inl rfl | exact Or.inr rfl) (pe_bm PySem.F.plainAttrs_str PySem.F.slot_str_split PySem.F.type_str_split mt_split (pv 3) (pa_cons pe_str pa_nil)))
      (pss_cons (ps_if (PW.pt (pw_or (pt_cmpR op_eq (pv 2) pe_str (nomark _)) (pw_or (pt_cmpR op_isN (pe_fn K__law_count hr rfl (pa_cons (pv 1) pa_nil)) pe_non (nomark _)) (pw_or (pt_cmpR op_gt (pe_callB call_len_seq rfl T.z_len bt_len (pa_cons (pv 4) pa_nil)) pe_int (nomark _)) (pw_or1 (pt_not (pt_val (pe_callB (call_all_list hr.hd) rfl T.z_all bt_all (pa_cons (pe_comp (N' := ["_law_word"]) (cap := [none]) rfl (pi_list (pv 4)) (by show scopeOk _ (defScope s__law_in) = true; decide +kernel) (by show capsOk ["_law_text", "_law_head", "_law_sign", "_law_tail", "_law_words", "_law_parts"] _ _ _ = true; decide +kernel) (fun _ _ _ _ => ⟨(pg_name (i := 0) (show List.Nodup (["_law_word"] : List Str) by decide +kernel) rfl (by first | exact Or.inl rfl | exact Or.inr rfl)), pf_nil, (pe_cmpR op_eq (pe_slice sl_str (pv 0) (po_some (pe_un un_neg pe_int)) po_none) pe_str (nomark _))⟩)) pa_nil))))))))) (pss_one (ps_ret pe_non))
      pss_nil)
      (pss_cons (ps_setComp (i := 5) S.nd rfl rfl (N' := ["_law_word"]) (cap := [none]) rfl (pi_list (pv 4)) (by show scopeOk _ (defScope s__law_in) = true; decide +kernel) (by show capsOk ["_law_text", "_law_head", "_law_sign", "_law_tail", "_law_words", "_law_parts"] _ _ _ = true; decide +kernel) (fun _ _ _ _ => ⟨(pg_name (i := 0) (show List.Nodup (["_law_word"] : List Str) by decide +kernel) rfl (by first | exact Or.inl rfl | exact Or.inr rfl)), pf_nil, (pe_fn K__law_count hr rfl (pa_cons (pe_slice sl_str (pv 0) po_none (po_some (pe_un un_neg pe_int))) pa_nil))⟩))
      (pss_cons (ps_if (PW.pt (pw_or (pt_cmpR op_in_seq pe_non (pv 5) rfl) (pw_or (pt_cmpR (op_neD hr.units) (pv 5) (pe_callB call_sorted_ints rfl T.z_sorted bt_sorted (pa_cons (pv 5) pa_nil)) (nomark _)) (pw_or1 (pt_cmpR op_ne (pe_callB (call_sum_list hr.hd) rfl T.z_sum bt_sum (pa_cons (pe_comp (N' := ["_law_part"]) (cap := [none]) rfl (pi_list (pv 5)) (by show scopeOk _ (defScope s__law_in) = true; decide +kernel) (by show capsOk ["_law_text", "_law_head", "_law_sign", "_law_tail", "_law_words", "_law_parts"] _ _ _ = true; decide +kernel) (fun _ _ _ _ => ⟨(pg_name (i := 0) (show List.Nodup (["_law_part"] : List Str) by decide +kernel) rfl (by first | exact Or.inl rfl | exact Or.inr rfl)), pf_nil, (pe_op op_mul (pv 0) (pv 0))⟩)) pa_nil)) (pe_fn K__law_count hr rfl (pa_cons (pv 1) pa_nil)) (nomark _)))))) (pss_one (ps_ret pe_non))
      pss_nil)
      (pss_one (ps_ret (pe_ifExp (pt_cmpR op_lt (pe_fn K__law_count hr rfl (pa_cons (pv 1) pa_nil)) pe_int (nomark _)) (pe_tup (pa_cons (pe_fn K__law_count hr rfl (pa_cons (pv 1) pa_nil)) (pa_cons (pv 5) pa_nil))) pe_non)))))))), ?_⟩
  walk_at "rd"
  walk_at "rt"
  rw [show Str.ofString " + " = sPlus from rfl, show Str.ofString " = " = sEq from rfl]
  have zs : z.length ≤ sizeLine := Nat.le_trans hz (by decide)
  have pl := partition_len z sEq
  have hlaw : lawIn z = lawIn z := rfl
  unfold lawIn at hlaw
  have hy : 1 ≤ sPlus.length := by rw [sPlus_len]; decide
  refine ⟨by decide +kernel, zs, fun l hl => ?_⟩
  obtain ⟨hd, sg, u, hp⟩ : ∃ h s u, Txt.partition z sEq = (h, s, u) := ⟨_, _, _, rfl⟩
  rw [hp] at pl ⊢
  dsimp only at pl ⊢
  refine ⟨_, SqT.of upd_same, rfl, _, _, rfl, _, _, rfl, _, _, rfl, rfl, trivial, _, rfl, by decide +kernel, Nat.le_trans (Nat.le_trans pl.2 hz) (by decide), ?_⟩
  have u1 : u.length + 1 ≤ sizeLine := Nat.le_trans (Nat.succ_le_succ (Nat.le_trans pl.2 hz)) (by decide)
  have hsl := split_len u sPlus hy kind_sPlus
  refine ⟨Nat.le_trans (between_len u sPlus hy) u1, Nat.le_trans hsl u1, fun l2 hl2 => ⟨rfl, ?_⟩⟩
  have s1 : Same H (upd (upd H l (HO.tup [V.str hd, V.str sg, V.str u])) l2 (HO.lst ((Txt.split u sPlus).map V.str))) := (Same.upd hl _).trans (Same.upd hl2 _)
  have hw : upd (upd H l (HO.tup [V.str hd, V.str sg, V.str u])) l2 (HO.lst ((Txt.split u sPlus).map V.str)) l2 = some (HO.lst ((Txt.split u sPlus).map V.str)) := upd_same
  have f2 : H l2 = none := (Same.upd hl _).free hl2
  have hw_le : ∀ w ∈ Txt.split u sPlus, w.length ≤ 5000 := fun w hw => Nat.le_trans (split_le hy kind_sPlus w hw) (Nat.le_trans pl.2 hz)
  change if V.str sg = V.str (Str.ofString "") then Q V.non (upd (upd H l (HO.tup [V.str hd, V.str sg, V.str u])) l2 (HO.lst ((Txt.split u sPlus).map V.str))) else _
  generalize upd (upd H l (HO.tup [V.str hd, V.str sg, V.str u])) l2 (HO.lst ((Txt.split u sPlus).map V.str)) = H1 at s1 hw ⊢
  have hz' : ((Txt.split u sPlus).map V.str).length ≤ sizeLine := by
    rw [List.length_map]
    exact Nat.le_trans hsl u1
  have se : Str.ofString "" = Str.empty := by decide +kernel
  rw [se]
  split
  · rename_i h
    cases h
    exact q2 (by unfold lawIn; rw [hp]; dsimp only; rw [if_pos rfl]) _ s1
  rename_i h0
  have h0' : ¬ sg = Str.empty := fun e => h0 (by rw [e])
  refine ⟨hd, rfl, Nat.le_trans pl.1 hz, ?_⟩
  cases hc : count hd with
  | none =>
    rw [if_pos (show cV none = V.non from rfl)]
    exact q2 (by unfold lawIn; rw [hp]; dsimp only; rw [if_neg h0', hc]) _ s1
  | some n =>
  rw [if_neg (by intro e; cases e)]
  refine ⟨_, .inl (SqL.of hw), ?_⟩
  rw [List.length_map]
  have hlw : lawIn z = (if 4 < (Txt.split u sPlus).length ∨ ((Txt.split u sPlus).all fun w => decide (end2 w = sSq)) = false then none else match nums count (Txt.split u sPlus) with
      | none => none
      | some ps => if riseB ps = true ∧ sumSq ps = n ∧ n < 10001 then some (n, ps) else none) := by
    unfold lawIn
    rw [hp]
    dsimp only
    first | (rw [if_neg h0', hc]; done) | (rw [if_neg h0', hc]; rfl)
  generalize hws : Txt.split u sPlus = ws at *
  split
  · rename_i h4
    exact q2 (by rw [hlw, if_pos (.inl (by omega))]) _ s1
  rename_i h4
  refine rd_comp fEnd rfl (SqL.of hw) hz' (fun x hx R r => ?_) (fun D hD => ?_)
  · obtain ⟨v, hv, rfl⟩ := List.mem_map.mp hx
    walk_at "rd"
    walk_at "rt"
    rw [cut_end2]
    exact ⟨Nat.le_trans (hw_le v hv) (by decide), r⟩
  rw [map_fEnd]
  have s2 := Same.upd hD (.lst ((ws.map fun w => decide (end2 w = sSq)).map V.bl))
  refine ⟨D, rfl, ws.map fun w => decide (end2 w = sSq), SqL.of upd_same, ?_⟩
  rw [show (ws.map fun w => decide (end2 w = sSq)).all id = ws.all fun w => decide (end2 w = sSq) from List.all_map ..]
  generalize upd H1 D (.lst ((ws.map fun w => decide (end2 w = sSq)).map V.bl)) = H2 at s2 ⊢
  split
  · rename_i h5
    exact q2 (by rw [hlw, if_pos (.inr h5)]) _ (s1.trans s2)
  rename_i h5
  rw [if_neg (by rintro (y | y); exact h4 (by omega); exact h5 y)] at hlw
  refine rd_comp fCnt rfl (SqL.of (s2 _ _ hw)) hz' (fun x hx R r => ?_) (fun D2 hD2 => ?_)
  · obtain ⟨v, hv, rfl⟩ := List.mem_map.mp hx
    walk_at "rd"
    walk_at "rt"
    rw [cut_bas]
    exact ⟨Nat.le_trans (hw_le v hv) (by decide), bas v, rfl, Nat.le_trans (bas_len v) (hw_le v hv), r⟩
  rw [map_fCnt]
  have s3 := (s1.trans s2).trans (Same.upd hD2 (.lst (ws.map fun w => cV (count (bas w)))))
  have hd2 : upd H2 D2 (.lst (ws.map fun w => cV (count (bas w)))) D2 = some (.lst (ws.map fun w => cV (count (bas w)))) := upd_same
  have f3 : H D2 = none := (s1.trans s2).free hD2
  generalize upd H2 D2 (.lst (ws.map fun w => cV (count (bas w)))) = H3 at s3 hd2 ⊢
  refine ⟨D2, _, rfl, .inl (SqL.of hd2), rfl, flat_cnt ws, ?_⟩
  rw [cnt_in]
  refine ⟨(nums count ws).isNone, rfl, ?_⟩
  cases hn : nums count ws with
  | none =>
    rw [hn] at hlw
    rw [if_pos (show (none : Option (List Int)).isNone = true from rfl)]
    exact q2 hlw _ s3
  | some ps =>
  rw [hn] at hlw
  rw [if_neg (by intro e; cases e)]
  rw [cnt_ints hn] at hd2
  have nn := nums_nonneg hn
  have pl4 : ps.length ≤ 4 := by
    rw [nums_len hn]
    omega
  refine ⟨D2, rfl, ps, SqL.of hd2, by omega, fun ns' l3 hperm hpw hl3 => ?_⟩
  have s4 := s3.trans (Same.upd hl3 (.lst (ns'.map V.int)))
  have hd3 := Same.upd hl3 (.lst (ns'.map V.int)) _ _ hd2
  refine ⟨.list (ps.map .int), .lst (SqL.of hd3) (Dts.ints ps), .list (ns'.map .int), .lst (SqL.of upd_same) (Dts.ints ns'), shaped_ints _, shaped_ints _, ?_⟩
  generalize upd H3 l3 (.lst (ns'.map V.int)) = H4 at s4 hd3 ⊢
  have ev : PyData.eqv (.list (ps.map .int)) (.list (ns'.map .int)) = decide (ps = ns') := by
    simp only [PyData.eqv, eqv_ints]
  rw [ev]
  split
  · rename_i h6
    refine q2 ?_ _ s4
    rw [hlw]
    dsimp only
    rw [if_neg]
    rintro ⟨y, _⟩
    rw [rise_iff] at y
    exact of_decide_eq_false h6 (sorted_same hperm.symm (of_decide_eq_true y) hpw)
  rename_i h6
  have h6' : ps = ns' := Classical.byContradiction fun c => h6 (decide_eq_false c)
  have hr : riseB ps = true := by
    rw [rise_iff]
    exact decide_eq_true (h6' ▸ hpw)
  refine rd_comp fSq rfl (SqL.of hd3) (by rw [List.length_map]; exact Nat.le_of_lt (small1000 (by omega))) (fun x hx R r => ?_) (fun D3 hD3 => ?_)
  · obtain ⟨v, hv, rfl⟩ := List.mem_map.mp hx
    have hv' := nn v hv
    walk_at "rd"
    exact ⟨.inl ⟨by omega, by omega⟩, r⟩
  rw [map_fSq]
  have s5 := s4.trans (Same.upd hD3 (.lst ((ps.map fun x => x * x).map V.int)))
  have hd4 := Same.upd hD3 (.lst ((ps.map fun x => x * x).map V.int)) _ _ hd3
  refine ⟨D3, rfl, ps.map fun x => x * x, SqL.of upd_same, ?_⟩
  generalize upd H4 D3 (.lst ((ps.map fun x => x * x).map V.int)) = H5 at s5 hd4 ⊢
  refine ⟨hd, rfl, Nat.le_trans pl.1 hz, ?_⟩
  rw [hc]
  have hlw' : lawIn z = if riseB ps = true ∧ sumSq ps = n ∧ n < 10001 then some (n, ps) else none := hlw
  refine ⟨rfl, ?_⟩
  split
  · rename_i h7
    refine q2 ?_ _ s5
    rw [hlw', if_neg]
    rintro ⟨_, y, _⟩
    exact h7 (by rw [show (ps.map fun x => x * x).sum = n from y]; rfl)
  rename_i h7
  have h7' : sumSq ps = n := by
    have : V.int (ps.map fun x => x * x).sum = V.int n := Classical.byContradiction h7
    cases this
    rfl
  refine ⟨hd, rfl, Nat.le_trans pl.1 hz, ?_⟩
  rw [hc]
  refine ⟨n, rfl, ?_⟩
  split
  · rename_i h8
    refine ⟨hd, rfl, Nat.le_trans pl.1 hz, ?_⟩
    rw [hc]
    refine ⟨by decide, fun p hp0 => q1 n ps ?_ p D2 _ (s5.trans (Same.upd hp0 _)) f3 (s5.free hp0) ⟨Same.upd hp0 _ _ _ hd4, upd_same⟩⟩
    rw [hlw', if_pos ⟨hr, h7', h8⟩]
  · rename_i h8
    refine q2 ?_ _ s5
    rw [hlw', if_neg]
    rintro ⟨_, _, y⟩
    exact h8 y
end
end Sq

namespace Sq
open PySem L2 Tx
local macro_rules | `(tactic| walk_at "rd") => `(tactic| simp only [L2.start, List.map_cons, List.map_nil, List.length_cons, List.length_nil, List.replicate, List.cons_append, List.nil_append, List.append_nil, Nat.sub_self, Nat.reduceAdd, Nat.reduceSub,
  tSeq, tRet, tRetN, tNext, tIfS, tDrop, tAsg, tPar, gName, gNil, gCons, gTup, tVar, tC, tOp, tUn, rI, rI0, rU, rEq, rNe, scal_ii, scal_ss, scal_bb, tTest, tB, tAnd, tOr, tNot, tAndV, tOrV, tNotV, tIf, tCB, tCons, tNil, tCall, tChain, tChain3, tLst, tTup, tDGet, tDGet2, tDIn, sDPut, tDNewK, okC, clsV, cxOf_K,
  List.getElem?_cons_zero, List.getElem?_cons_succ, Option.some.injEq, exists_eq_left', exists_eq_left, exists_eq_right, exists_and_left, and_assoc, V.int.injEq, V.bl.injEq, V.ref.injEq, V.str.injEq, List.cons.injEq, and_true, true_and, List.set_cons_zero, List.set_cons_succ,
  if_true, if_false, ↓reduceIte, Bool.false_eq_true, Bool.true_eq_false, Bool.not_true, Bool.not_false, Bool.not_eq_true', decide_eq_true_eq, decide_eq_false_iff_not])
local macro_rules | `(tactic| walk_at "rs") => `(tactic| simp only [L2.start, List.map_cons, List.map_nil, List.length_cons, List.length_nil, List.replicate, List.cons_append, List.nil_append, List.append_nil, Nat.sub_self, Nat.reduceAdd, Nat.reduceSub, cxOf_K])

set_option maxHeartbeats 2000000
local macro_rules | `(tactic| walk_at "rt") => `(tactic| (simp only [tBM, tyV, rEndswith, rSplit, rStrip, rPartition, rJoin, tSl, rSlS, tNoPart, tPart, tJoined, jCons, jNil, tFmt]; walk_at "rd"))
/-! k08: what is refused, what is right -/
def spRefused : Sp := fun vs H Q _ => ∃ x, vs = [x] ∧ ((∃ z : Str, x = .str z ∧ z.length ≤ 5000 ∧ lawIn z = none) ∨ noTxt H x) ∧ ∀ H', Same H H' → Q (.bl true) H'
section
variable {P : Program} {w : World} {K : PySem.W.Frag} {mg : Str → Option Value} {base : Heap} {t : Adr}
theorem spRead_no {x : V} {H : Hp} {Q : VK} {E : XK} (hx : (∃ z : Str, x = .str z ∧ z.length ≤ 5000 ∧ lawIn z = none) ∨ noTxt H x) (h : ∀ H2, Same H H2 → E (.ref t.BadText) none H2) : spRead t [x] H Q E := by
  rcases hx with ⟨z, rfl, hz, hn⟩ | hx
  · exact ⟨_, rfl, .inl ⟨z, rfl, hz, fun n ps e => (by rw [hn] at e; cases e), fun _ => h⟩⟩
  · exact ⟨_, rfl, .inr ⟨hx, h⟩⟩
theorem ok_law_refused (T : Txt K mg t) (K_read : KnownX P w K mg base 6 "read" ["text"] (spRead t)) : Known P w K mg base 7 "_law_refused" ["_law_text"] spRefused := by
  have S : FnScope ["_law_text", "error", "_law_others"] ["_law_text"] (defScope s__law_refused) := ⟨rfl, rfl, rfl, by decide +kernel, rfl, by decide +kernel, by decide +kernel⟩
  refine Known.of T.h__law_refused S (fun vs H Q E h => ?_) (fun f cdv A outer s H vs Q E hr h => ?_)
  · obtain ⟨x, rfl, _⟩ := h
    rfl
  obtain ⟨x, rfl, hx, q⟩ := h
  refine ⟨_, (pss_cons (ps_tryCall K_read hr rfl (pa_cons (pv 0) pa_nil) rfl T.m_SquareError S.nd (i := 1) rfl rfl (fun ea => (pss_cons (ps_set (i := 2) S.nd rfl (by first | exact Or.inl rfl | exact Or.inr rfl) (pe_lst (pa_cons (pe_callB call_isinstX rfl T.z_isinstance bt_isinstance (pa_cons (pv 1) (pa_cons (pe_cls rfl T.m_BadNumber) pa_nil))) (pa_cons (pe_callB call_isinstX rfl T.z_isinstance bt_isinstance (pa_cons (pv 1) (pa_cons (pe_cls rfl T.m_BadParts) pa_nil))) (pa_cons (pe_callB call_isinstX rfl T.z_isinstance bt_isinstance (pa_cons (pv 1) (pa_cons (pe_cls rfl T.m_BadPrime) pa_nil))) pa_nil)))))
      (pss_cons (ps_set (i := 2) S.nd rfl (by first | exact Or.inl rfl | exact Or.inr rfl) (pe_op op_cat (pv 2) (pe_lst (pa_cons (pe_callB call_isinstX rfl T.z_isinstance bt_isinstance (pa_cons (pv 1) (pa_cons (pe_cls rfl T.m_BadWalk) pa_nil))) (pa_cons (pe_not (pe_callB call_isinstX rfl T.z_isinstance bt_isinstance (pa_cons (pv 1) (pa_cons (pe_ty rfl T.z_ValueError bt_ValueError) pa_nil)))) pa_nil)))))
      (pss_one (ps_ret (pe_and (pe_callB call_isinstX rfl T.z_isinstance bt_isinstance (pa_cons (pv 1) (pa_cons (pe_cls rfl T.m_BadText) pa_nil))) (pe_one (pe_not (pe_callB (call_anyH (ea := ea) rfl) rfl T.z_any bt_any (pa_cons (pv 2) pa_nil)))))))))))
      (pss_one (ps_ret pe_bl))), ?_⟩
  walk_at "rd"
  refine spRead_no hx fun H2 s2 => ?_
  refine ⟨t.BadText, rfl, T.w_BadText_SquareError, fun ea hea => ?_⟩
  refine ⟨t.BadText, upd_same, T.e_BadText, false, T.k_BadText_BadNumber, t.BadText, upd_same, T.e_BadText, false, T.k_BadText_BadParts, t.BadText, upd_same, T.e_BadText, false, T.k_BadText_BadPrime, by decide, fun p hp => ?_⟩
  have e1 : upd (upd H2 ea (exO ea t.BadText)) p (HO.lst [V.bl false, V.bl false, V.bl false]) ea = some (exO ea t.BadText) := Same.upd hp _ _ _ upd_same
  refine ⟨t.BadText, e1, T.e_BadText, false, T.k_BadText_BadWalk, t.BadText, e1, T.e_BadText, true, T.k_BadText_ValueError, ?_⟩
  refine ⟨by decide, fun p1 hp1 => ?_⟩
  have e2 := Same.upd hp1 (HO.lst [V.bl false, V.bl !true]) _ _ e1
  have s4 := ((s2.trans (Same.upd hea (exO ea t.BadText))).trans (Same.upd hp (HO.lst [V.bl false, V.bl false, V.bl false]))).trans (Same.upd hp1 (HO.lst [V.bl false, V.bl !true]))
  have hp2 := Same.upd hp1 (HO.lst [V.bl false, V.bl !true]) p _ upd_same
  refine ⟨p, p1, _, _, rfl, rfl, hp2, upd_same, by decide, fun d hd => ?_⟩
  refine ⟨t.BadText, Same.upd hd _ _ _ e2, T.e_BadText, true, T.k_BadText_BadText, ?_⟩
  rw [if_pos rfl]
  refine ⟨d, rfl, t.BadText, [false, false, false, false, false], SqL.of upd_same, Same.upd hd _ _ _ e2, ?_⟩
  exact q _ (s4.trans (Same.upd hd _))
def dT (n : Int) (ps : List Int) : PyData := .tuple [.int n, .list (ps.map .int)]
theorem tupAt.data {H : Hp} {p l : Addr} {n : Int} {ps : List Int} (h : tupAt H p l n ps) : Dt K H (.ref p) (dT n ps) := .tup (SqT.of h.2) (.cons (.int n) (.cons (.lst (SqL.of h.1) (Dts.ints ps)) .nil))
theorem dT_shaped (n : Int) (ps : List Int) : SeqAt.shaped (dT n ps) = true := by
  simp [dT, SeqAt.shaped, PyData.canLay0, PyData.canLayAll0, PyData.depth, PyData.depthAll, PySem.W.ke_canLayAll0, PySem.W.ke_depthAll]
theorem dT_eqv (n : Int) (ps : List Int) : PyData.eqv (dT n ps) (dT n ps) = true := by
  simp only [dT, PyData.eqv, PyData.eqvAll, eqv_ints]
  simp
theorem tupAt.same {H H' : Hp} {p l : Addr} {n : Int} {ps : List Int} (s : Same H H') (h : tupAt H p l n ps) : tupAt H' p l n ps := ⟨s _ _ h.1, s _ _ h.2⟩
/-- a change of what was made since -/
theorem same_upd_new {H H' : Hp} {l : Addr} (s : Same H H') (h : H l = none) (o : HO) : Same H (upd H' l o) := fun b u e => by
  rw [upd_ne (ne_of_none e h)]
  exact s _ _ e
def spRight : Sp := fun vs H Q _ => ∃ z : Str, vs = [.str z] ∧ z.length ≤ 5000 ∧ ∀ H', Same H H' → Q (.bl true) H'
theorem ok_law_right (T : Txt K mg t) (K_readX : KnownX P w K mg base 6 "read" ["text"] (spRead t)) (K_written : Known P w K mg base 4 "written" ["number", "parts"] spWritten) (K__law_in : Known P w K mg base 2 "_law_in" ["_law_text"] spIn) (K__law_refused : Known P w K mg base 7 "_law_refused" ["_law_text"] spRefused) :
    Known P w K mg base 8 "_law_right" ["_law_text"] spRight := by
  have K_read := K_readX.calm
  have S : FnScope ["_law_text", "_law_due", "_law_found"] ["_law_text"] (defScope s__law_right) := ⟨rfl, rfl, rfl, by decide +kernel, rfl, by decide +kernel, by decide +kernel⟩
  refine Known.of T.h__law_right S (fun vs H Q E h => ?_) (fun f cdv A outer s H vs Q E hr h => ?_)
  · obtain ⟨z, rfl, _⟩ := h
    rfl
  obtain ⟨z, rfl, hz, q⟩ := h
  refine ⟨_, (pss_cons (ps_set (i := 1) S.nd rfl (by first | exact Or.inl rfl | exact Or.inr rfl) (pe_fn K__law_in (hr.mono (by decide : 2 ≤ 7)) rfl (pa_cons (pv 0) pa_nil)))
      (pss_cons (ps_if (pt_cmpR op_isN (pv 1) pe_non (nomark _)) (pss_one (ps_ret (pe_fn K__law_refused hr rfl (pa_cons (pv 0) pa_nil))))
      pss_nil)
      (pss_cons (ps_set (i := 2) S.nd rfl (by first | exact Or.inl rfl | exact Or.inr rfl) (pe_fn K_read (hr.mono (by decide : 6 ≤ 7)) rfl (pa_cons (pv 0) pa_nil)))
      (pss_cons (ps_if (PW.pt (pw_or (pt_not (pt_val (pe_callB call_isinst rfl T.z_isinstance bt_isinstance (pa_cons (pv 2) (pa_cons (pe_ty rfl T.z_tuple bt_tuple) pa_nil))))) (pw_or (pt_cmpR (op_neD hr.units) (pv 2) (pv 1) (nomark _)) (pw_or1 (pt_cmpR op_ne (pe_fn K_written (hr.mono (by decide : 4 ≤ 7)) rfl (pa_cons (pe_ix ix_tup (pv 2) pe_int (fun _ _ => rfl)) (pa_cons (pe_ix ix_tup (pv 2) pe_int (fun _ _ => rfl)) pa_nil))) (pv 0) (nomark _)))))) (pss_one (ps_ret pe_bl))
      pss_nil)
      (pss_cons (ps_expr (pe_bm PySem.F.plainAttrs_list PySem.F.slot_list_append PySem.F.type_list_append mt_append (pe_ix ix_tup (pv 2) pe_int (fun _ _ => rfl)) (pa_cons pe_int pa_nil)))
      (pss_one (ps_ret (pe_cmpR (op_eqD hr.units) (pe_fn K_read (hr.mono (by decide : 6 ≤ 7)) rfl (pa_cons (pv 0) pa_nil)) (pv 1) (nomark _))))))))), ?_⟩
  walk_at "rd"
  refine ⟨z, rfl, hz, fun n ps hl p l H1 s1 fl fp tp => ?_, fun hl H1 s1 => (by
    dsimp only
    rw [if_pos rfl]
    exact ⟨_, rfl, .inl ⟨z, rfl, hz, hl⟩, fun H2 s2 => q H2 (s1.trans s2)⟩)⟩
  dsimp only
  obtain ⟨hw, n0, n1, l1, l4, ok, hr, hs⟩ := lawIn_some hl
  rw [if_neg (by intro e; cases e)]
  refine ⟨_, rfl, .inl ⟨z, rfl, hz, fun n' ps' hl' p2 l2 H2 s2 fl2 fp2 tp2 => ?_, fun e => by rw [hl] at e; cases e⟩⟩
  rw [hl] at hl'
  cases hl'
  refine ⟨true, inst_tt tp2.2, ?_⟩
  rw [if_neg (by decide)]
  refine ⟨_, tp2.data, _, (tp.same s2).data, dT_shaped _ _, dT_shaped _ _, ?_⟩
  rw [dT_eqv, if_neg (by decide)]
  refine ⟨p2, _, 0, .int n, rfl, rfl, SqT.of tp2.2, atI_nat (j := 0) rfl, p2, _, 1, .ref l2, rfl, rfl, SqT.of tp2.2, atI_nat (j := 1) rfl, ?_⟩
  refine ⟨n, l2, ps, rfl, tp2.1, okI_iff.mpr ⟨n0, n1⟩, l1, l4, by rw [parts_iff ok]; exact decide_eq_true ⟨hr, hs⟩, fun H3 s3 => ⟨rfl, ?_⟩⟩
  rw [hw, if_neg (fun c => c rfl)]
  walk_at "rt"
  have hl3 := s3 _ _ tp2.1
  refine ⟨p2, _, 1, .ref l2, rfl, rfl, SqT.of (s3 _ _ tp2.2), atI_nat (j := 1) rfl, .inl ⟨_, SqL.of hl3⟩, l2, _, .int 0, rfl, rfl, hl3, by rw [List.length_map]; exact Nat.lt_of_le_of_lt l4 (by decide), ?_⟩
  have s4 : Same H1 (upd H3 l2 (HO.lst (ps.map V.int ++ [V.int 0]))) := same_upd_new (s2.trans s3) fl2 _
  generalize upd H3 l2 (HO.lst (ps.map V.int ++ [V.int 0])) = H4 at s4 ⊢
  refine ⟨_, rfl, .inl ⟨z, rfl, hz, fun n' ps' hl' p5 l5 H5 s5 _ _ tp5 => ?_, fun e => by rw [hl] at e; cases e⟩⟩
  rw [hl] at hl'
  cases hl'
  refine ⟨_, tp5.data, _, (tp.same (s4.trans s5)).data, dT_shaped _ _, dT_shaped _ _, ?_⟩
  rw [dT_eqv]
  exact q _ ((s1.trans s4).trans s5)
end
end Sq

namespace Sq
open PySem L2 Tx
local macro_rules | `(tactic| walk_at "rd") => `(tactic| simp only [L2.start, List.map_cons, List.map_nil, List.length_cons, List.length_nil, List.replicate, List.cons_append, List.nil_append, List.append_nil, Nat.sub_self, Nat.reduceAdd, Nat.reduceSub,
  tSeq, tRet, tRetN, tNext, tIfS, tDrop, tAsg, tPar, gName, gNil, gCons, gTup, tVar, tC, tOp, tUn, rI, rI0, rU, rEq, rNe, scal_ii, scal_ss, scal_bb, tTest, tB, tAnd, tOr, tNot, tAndV, tOrV, tNotV, tIf, tCB, tCons, tNil, tCall, tChain, tChain3, tLst, tTup, tDGet, tDGet2, tDIn, sDPut, tDNewK, okC, clsV, cxOf_K,
  List.getElem?_cons_zero, List.getElem?_cons_succ, Option.some.injEq, exists_eq_left', exists_eq_left, exists_eq_right, exists_and_left, and_assoc, V.int.injEq, V.bl.injEq, V.ref.injEq, V.str.injEq, List.cons.injEq, and_true, true_and, List.set_cons_zero, List.set_cons_succ,
  if_true, if_false, ↓reduceIte, Bool.false_eq_true, Bool.true_eq_false, Bool.not_true, Bool.not_false, Bool.not_eq_true', decide_eq_true_eq, decide_eq_false_iff_not])
local macro_rules | `(tactic| walk_at "rs") => `(tactic| simp only [L2.start, List.map_cons, List.map_nil, List.length_cons, List.length_nil, List.replicate, List.cons_append, List.nil_append, List.append_nil, Nat.sub_self, Nat.reduceAdd, Nat.reduceSub, cxOf_K])

set_option maxHeartbeats 2000000
/-! k08: the few texts -/
def okV : V → Bool
  | .str z => decide (z.length ≤ 5000)
  | _ => false
theorem okVs_strs : ∀ {xs : List V}, xs.all okV = true → ∃ zs : List Str, xs = zs.map V.str ∧ ∀ z ∈ zs, z.length ≤ 5000
  | [], _ => ⟨[], rfl, fun z h => by cases h⟩
  | x :: r, h => by
    rw [List.all_cons, Bool.and_eq_true] at h
    obtain ⟨zs, e, hz⟩ := okVs_strs h.2
    cases x with
    | str z =>
      refine ⟨z :: zs, by rw [e]; rfl, fun y hy => ?_⟩
      rcases List.mem_cons.mp hy with rfl | hy
      · exact of_decide_eq_true h.1
      · exact hz y hy
    | _ => exact absurd h.1 (by intro c; cases c)
def Few (H0 H : Hp) (a : Addr) (k : Nat) : Prop := Same H0 H ∧ H0 a = none ∧ ∃ xs : List V, H a = some (.lst xs) ∧ xs.length ≤ k ∧ xs.all okV = true
theorem few_new {H : Hp} {a : Addr} {xs : List V} (h : H a = none) (hx : xs.all okV = true) : Few H (upd H a (.lst xs)) a xs.length := ⟨Same.upd h _, h, xs, upd_same, Nat.le_refl _, hx⟩
theorem few_cat {H0 H : Hp} {a b : Addr} {k : Nat} {ys : List V} {Q : VK} (h : Few H0 H a k) (hy : ys.all okV = true) (hk : k + ys.length ≤ 100) (hb : H b = none) (q : ∀ d H', Few H0 H' d (k + ys.length) → Q (.ref d) H') :
    rCat (.ref a) (.ref b) (upd H b (.lst ys)) Q := by
  obtain ⟨s, h0, xs, e, hl, ha⟩ := h
  have s1 := s.trans (Same.upd hb (.lst ys))
  refine ⟨a, b, xs, ys, rfl, rfl, Same.upd hb _ _ _ e, upd_same, Nat.le_trans (show xs.length + ys.length ≤ 100 by omega) (by decide), fun p hp => q p _ ⟨s1.trans (Same.upd hp _), s1.free hp, xs ++ ys, upd_same, by rw [List.length_append]; omega, by rw [List.all_append, ha, hy]; rfl⟩⟩
theorem rep_size (a : Array Nat) : ∀ (n : Nat) (acc : Array Nat), ((List.replicate n a).foldl (· ++ ·) acc).size = acc.size + n * a.size
  | 0, acc => by simp
  | n + 1, acc => by
    rw [List.replicate_succ, List.foldl_cons, rep_size a n, Array.size_append, Nat.succ_mul]
    omega
section
variable {P : Program} {w : World} {K : PySem.W.Frag} {mg : Str → Option Value} {base : Heap} {t : Adr}
def spFew : Sp := fun vs H Q _ => vs = [] ∧ ∀ (l : Addr) (zs : List Str) (H' : Hp), Same H H' → H l = none → H' l = some (.lst (zs.map V.str)) → zs.length ≤ 100 → (∀ z ∈ zs, z.length ≤ 5000) → Q (.ref l) H'
theorem ok_law_few (T : Txt K mg t) : Known P w K mg base 1 "_law_few" [] spFew := by
  have S : FnScope ["_law_some"] [] (defScope s__law_few) := ⟨rfl, rfl, rfl, by decide +kernel, rfl, by decide +kernel, by decide +kernel⟩
  refine Known.of T.h__law_few S (fun vs H Q E h => ?_) (fun f cdv A outer s H vs Q E hr h => ?_)
  · obtain ⟨rfl, _⟩ := h
    rfl
  obtain ⟨rfl, q⟩ := h
  refine ⟨_, (pss_cons (ps_set (i := 0) S.nd rfl (by first | exact Or.inl rfl | exact Or.inr rfl) (pe_lst (pa_strs rfl)))
      (pss_cons (ps_set (i := 0) S.nd rfl (by first | exact Or.inl rfl | exact Or.inr rfl) (pe_op op_cat (pv 0) (pe_lst (pa_strs rfl))))
      (pss_cons (ps_set (i := 0) S.nd rfl (by first | exact Or.inl rfl | exact Or.inr rfl) (pe_op op_cat (pv 0) (pe_lst (pa_strs rfl))))
      (pss_cons (ps_set (i := 0) S.nd rfl (by first | exact Or.inl rfl | exact Or.inr rfl) (pe_op op_cat (pv 0) (pe_lst (pa_strs rfl))))
      (pss_cons (ps_set (i := 0) S.nd rfl (by first | exact Or.inl rfl | exact Or.inr rfl) (pe_op op_cat (pv 0) (pe_lst (pa_strs rfl))))
      (pss_cons (ps_set (i := 0) S.nd rfl (by first | exact Or.inl rfl | exact Or.inr rfl) (pe_op op_cat (pv 0) (pe_lst (pa_cons pe_str (pa_cons pe_str (pa_cons pe_str (pa_cons pe_str (pa_cons pe_str (pa_cons pe_str (pa_cons pe_str (pa_cons (pe_op op_mul_str pe_str pe_int) pa_nil)))))))))))
      (pss_one (ps_ret (pe_op op_cat (pv 0) (pe_lst (pa_strs rfl))))))))))), ?_⟩
  walk_at "rd"
  refine ⟨by decide, fun p hp => ⟨by decide, fun p1 hp1 => ?_⟩⟩
  refine few_cat (few_new hp (by decide +kernel)) (by decide +kernel) (by decide) hp1 fun d1 H1 f1 => ⟨by decide, fun p2 hp2 => ?_⟩
  refine few_cat f1 (by decide +kernel) (by decide) hp2 fun d2 H2 f2 => ⟨by decide, fun p3 hp3 => ?_⟩
  refine few_cat f2 (by decide +kernel) (by decide) hp3 fun d3 H3 f3 => ⟨by decide, fun p4 hp4 => ?_⟩
  refine few_cat f3 (by decide +kernel) (by decide) hp4 fun d4 H4 f4 => ?_
  refine ⟨_, _, rfl, rfl, by decide, by decide +kernel, by decide, by decide +kernel, ?_⟩
  generalize hv : (⟨(List.replicate (4000 : Int).toNat (Str.ofString "9").cps).foldl (· ++ ·) #[]⟩ : Str) = nn
  have hn : nn.length ≤ 5000 := by
    rw [← hv]
    show Array.size _ ≤ 5000
    rw [rep_size]
    decide +kernel
  refine ⟨by decide, fun p5 hp5 => ?_⟩
  refine few_cat f4 (by simp only [List.all_cons, List.all_nil, okV, decide_eq_true hn]; decide +kernel) (Nat.le_of_ble_eq_true rfl) hp5 fun d5 H5 f5 => ⟨by decide, fun p6 hp6 => ?_⟩
  refine few_cat f5 (by decide +kernel) (Nat.le_of_ble_eq_true rfl) hp6 fun d6 H6 f6 => ?_
  obtain ⟨s6, h6, xs, e6, k6, a6⟩ := f6
  obtain ⟨zs, rfl, hz⟩ := okVs_strs a6
  rw [List.length_map] at k6
  exact q d6 zs H6 s6 h6 e6 (Nat.le_trans k6 (Nat.le_of_ble_eq_true rfl)) hz
end
end Sq

namespace Sq
open PySem L2 Tx
local macro_rules | `(tactic| walk_at "rd") => `(tactic| simp only [L2.start, List.map_cons, List.map_nil, List.length_cons, List.length_nil, List.replicate, List.cons_append, List.nil_append, List.append_nil, Nat.sub_self, Nat.reduceAdd, Nat.reduceSub,
  tSeq, tRet, tRetN, tNext, tIfS, tDrop, tAsg, tPar, gName, gNil, gCons, gTup, tVar, tC, tOp, tUn, rI, rI0, rU, rEq, rNe, scal_ii, scal_ss, scal_bb, tTest, tB, tAnd, tOr, tNot, tAndV, tOrV, tNotV, tIf, tCB, tCons, tNil, tCall, tChain, tChain3, tLst, tTup, tDGet, tDGet2, tDIn, sDPut, tDNewK, okC, clsV, cxOf_K,
  List.getElem?_cons_zero, List.getElem?_cons_succ, Option.some.injEq, exists_eq_left', exists_eq_left, exists_eq_right, exists_and_left, and_assoc, V.int.injEq, V.bl.injEq, V.ref.injEq, V.str.injEq, List.cons.injEq, and_true, true_and, List.set_cons_zero, List.set_cons_succ,
  if_true, if_false, ↓reduceIte, Bool.false_eq_true, Bool.true_eq_false, Bool.not_true, Bool.not_false, Bool.not_eq_true', decide_eq_true_eq, decide_eq_false_iff_not])
local macro_rules | `(tactic| walk_at "rs") => `(tactic| simp only [L2.start, List.map_cons, List.map_nil, List.length_cons, List.length_nil, List.replicate, List.cons_append, List.nil_append, List.append_nil, Nat.sub_self, Nat.reduceAdd, Nat.reduceSub, cxOf_K])

set_option maxHeartbeats 2000000
local macro_rules | `(tactic| walk_at "rt") => `(tactic| (simp only [tBM, tyV, rEndswith, rSplit, rStrip, rPartition, rJoin, tSl, rSlS, tNoPart, tPart, tJoined, jCons, jNil, tFmt]; walk_at "rd"))
/-! k08: the law -/
def spLaw (K : PySem.W.Frag) : Sp := fun vs H Q _ => ∃ (a : Addr) (ns : List Int), vs = [.ref a] ∧ SqL K H a (ns.map V.int) ∧ ns.length ≤ 63 ∧ ∀ H', Q (.bl true) H'
theorem sum_le : ∀ {ps : List Int}, (∀ p ∈ ps, 0 ≤ p ∧ p ≤ 49) → sumSq ps ≤ 2401 * ps.length
  | [], _ => by simp [sumSq]
  | p :: r, h => by
    have ih := sum_le (ps := r) fun q hq => h q (List.mem_cons_of_mem _ hq)
    have hp := h p (List.mem_cons_self ..)
    have h2 : p * p ≤ 49 * 49 := Int.mul_le_mul hp.2 hp.2 hp.1 (by decide)
    rw [sumSq_cons, List.length_cons]
    omega
theorem list_as {K : PySem.W.Frag} {tl : TE} {cap : List (Option Nat)} {g : TG} {tt : TT} {te : TE} {σ : St} {H : Hp} {Q : VK} (h : tl σ H fun x H1 => ∃ a, x = .ref a ∧ (∃ xs, SqL K H1 a xs) ∧ ∃ W : Nat → Nat → List V → St → Hp → Prop, (∃ m, W 0 m [] (capV cap σ) H1) ∧ CompW (Itl K a) g tt te Q W) :
    tComp (iList K tl) cap g tt te σ H Q := h
theorem rng1_as {ta : TA} {cap : List (Option Nat)} {g : TG} {tt : TT} {te : TE} {σ : St} {H : Hp} {Q : VK} (h : ta σ H fun vs H1 => ∃ j : Int, vs = [.int j] ∧ -(2 ^ 62) ≤ j ∧ j < 2 ^ 62 ∧ ∃ W : Nat → Nat → List V → St → Hp → Prop, (∃ m, W 0 m [] (capV cap σ) H1) ∧ CompW (Itr 0 j.toNat) g tt te Q W) :
    tComp (iRng1 ta) cap g tt te σ H Q := h
section
variable {P : Program} {w : World} {K : PySem.W.Frag} {mg : Str → Option Value} {base : Heap} {t : Adr}
theorem ok_law8 (T : Txt K mg t) (K__law_cell_at : Known P w K mg base 1 "_law_cell_at" ["_law_script", "_law_k"] (spCell K)) (K__law_draw : Known P w K mg base 1 "_law_draw" ["_law_cell", "_law_k", "_law_many"] spDraw)
    (K_written : Known P w K mg base 4 "written" ["number", "parts"] spWritten) (K__law_right : Known P w K mg base 8 "_law_right" ["_law_text"] spRight) (K__law_few : Known P w K mg base 1 "_law_few" [] spFew) (K__law_refused : Known P w K mg base 7 "_law_refused" ["_law_text"] spRefused) :
    Known P w K mg base 9 "law" ["_law_script"] (spLaw K) := by
  have S : FnScope ["_law_script", "_law_cell", "_law_most", "_law_parts", "_law_number", "_law_text", "_law_handed", "_law_more", "_law_k", "_law_at", "_law_sign"] ["_law_script"] (defScope s_law) := ⟨rfl, rfl, rfl, by decide +kernel, rfl, by decide +kernel, by decide +kernel⟩
  refine Known.of T.h_law S (fun vs H Q E h => ?_) (fun f cdv A outer s H vs Q E hr h => ?_)
  · obtain ⟨a, ns, rfl, _⟩ := h
    rfl
  obtain ⟨a, ns, rfl, hq, hl, q⟩ := h
  refine ⟨_, (pss_cons (ps_set (i := 1) S.nd rfl (by first | exact Or.inl rfl | exact Or.inr rfl) (pe_op op_add (pe_fn K__law_cell_at (hr.mono (by decide : 1 ≤ 8)) rfl (pa_cons (pv 0) (pa_cons pe_int pa_nil))) (pe_op op_mul pe_int (pe_fn K__law_cell_at (hr.mono (by decide : 1 ≤ 8)) rfl (pa_cons (pv 0) (pa_cons pe_int pa_nil))))))
      (pss_cons (ps_set (i := 2) S.nd rfl (by first | exact Or.inl rfl | exact Or.inr rfl) (pe_ix ix_tup (pe_tup (pa_cons pe_int (pa_cons pe_int pa_nil))) (pe_fn K__law_draw (hr.mono (by decide : 1 ≤ 8)) rfl (pa_cons (pv 1) (pa_cons pe_int (pa_cons pe_int pa_nil)))) (fun _ _ => rfl)))
      (pss_cons (ps_set (i := 3) S.nd rfl (by first | exact Or.inl rfl | exact Or.inr rfl) (pe_callB call_sorted_ints rfl T.z_sorted bt_sorted (pa_cons (pe_comp (N' := ["_law_k", "_law_cell", "_law_most"]) (cap := [none, some 1, some 2]) rfl (pi_range1 rfl T.z_range (pa_cons (pe_op op_add pe_int (pe_fn K__law_draw (hr.mono (by decide : 1 ≤ 8)) rfl (pa_cons (pv 1) (pa_cons pe_int (pa_cons pe_int pa_nil))))) pa_nil)) (by show scopeOk _ (defScope s_law) = true; decide +kernel) (by show capsOk ["_law_script", "_law_cell", "_law_most", "_law_parts", "_law_number", "_law_text", "_law_handed", "_law_more", "_law_k", "_law_at", "_law_sign"] _ _ _ = true; decide +kernel) (fun _ _ _ _ => ⟨(pg_name (i := 0) (show List.Nodup (["_law_k", "_law_cell", "_law_most"] : List Str) by decide +kernel) rfl (by first | exact Or.inl rfl | exact Or.inr rfl)), pf_nil, (pe_fn K__law_draw (hr.mono (by decide : 1 ≤ 8)) rfl (pa_cons (pv 1) (pa_cons (pe_op op_add pe_int (pv 0)) (pa_cons (pv 2) pa_nil))))⟩)) pa_nil)))
      (pss_cons (ps_set (i := 4) S.nd rfl (by first | exact Or.inl rfl | exact Or.inr rfl) (pe_callB (call_sum_list hr.hd) rfl T.z_sum bt_sum (pa_cons (pe_comp (N' := ["_law_part"]) (cap := [none]) rfl (pi_list (pv 3)) (by show scopeOk _ (defScope s_law) = true; decide +kernel) (by show capsOk ["_law_script", "_law_cell", "_law_most", "_law_parts", "_law_number", "_law_text", "_law_handed", "_law_more", "_law_k", "_law_at", "_law_sign"] _ _ _ = true; decide +kernel) (fun _ _ _ _ => ⟨(pg_name (i := 0) (show List.Nodup (["_law_part"] : List Str) by decide +kernel) rfl (by first | exact Or.inl rfl | exact Or.inr rfl)), pf_nil, (pe_op op_mul (pv 0) (pv 0))⟩)) pa_nil)))
      (pss_cons (ps_set (i := 5) S.nd rfl (by first | exact Or.inl rfl | exact Or.inr rfl) (pe_op op_add_str (pe_op op_add_str (pe_callTy call_str_int rfl T.z_str bt_str (pa_cons (pv 4) pa_nil)) pe_str) (pe_bm PySem.F.plainAttrs_str PySem.F.slot_str_join PySem.F.type_str_join mt_join pe_str (pa_cons (pe_comp (N' := ["_law_part"]) (cap := [none]) rfl (pi_list (pv 3)) (by show scopeOk _ (defScope s_law) = true; decide +kernel) (by show capsOk ["_law_script", "_law_cell", "_law_most", "_law_parts", "_law_number", "_law_text", "_law_handed", "_law_more", "_law_k", "_law_at", "_law_sign"] _ _ _ = true; decide +kernel) (fun _ _ _ _ => ⟨(pg_name (i := 0) (show List.Nodup (["_law_part"] : List Str) by decide +kernel) rfl (by first | exact Or.inl rfl | exact Or.inr rfl)), pf_nil, (pe_op op_add_str (pe_callTy call_str_int rfl T.z_str bt_str (pa_cons (pv 0) pa_nil)) pe_str)⟩)) pa_nil))))
      (pss_cons (ps_set (i := 6) S.nd rfl (by first | exact Or.inl rfl | exact Or.inr rfl) (pe_callTy call_list_of rfl T.z_list bt_list (pa_cons (pv 3) pa_nil)))
      (pss_cons (ps_if (PW.pt (pw_or (pt_cmpR op_ne (pe_fn K_written (hr.mono (by decide : 4 ≤ 8)) rfl (pa_cons (pv 4) (pa_cons (pv 6) pa_nil))) (pv 5) (nomark _)) (pw_or (pt_cmpR (op_neD hr.units) (pv 6) (pv 3) (nomark _)) (pw_or1 (pt_not (pt_val (pe_fn K__law_right hr rfl (pa_cons (pv 5) pa_nil)))))))) (pss_one (ps_ret pe_bl))
      pss_nil)
      (pss_cons (ps_set (i := 7) S.nd rfl (by first | exact Or.inl rfl | exact Or.inr rfl) (pe_op op_add (pe_fn K__law_cell_at (hr.mono (by decide : 1 ≤ 8)) rfl (pa_cons (pv 0) (pa_cons pe_int pa_nil))) (pe_op op_mul pe_int (pe_fn K__law_cell_at (hr.mono (by decide : 1 ≤ 8)) rfl (pa_cons (pv 0) (pa_cons pe_int pa_nil))))))
      (pss_cons (ps_for PassesOwn.never rfl (pi_range1 rfl T.z_range (pa_cons pe_int pa_nil)) (pg_name (i := 8) S.nd rfl (by first | exact Or.inl rfl | exact Or.inr rfl)) (pss_cons (ps_set (i := 9) S.nd rfl (by first | exact Or.inl rfl | exact Or.inr rfl) (pe_fn K__law_draw (hr.mono (by decide : 1 ≤ 8)) rfl (pa_cons (pe_op op_add (pv 7) (pv 8)) (pa_cons pe_int (pa_cons (pe_op op_add (pe_callB call_len_str rfl T.z_len bt_len (pa_cons (pv 5) pa_nil)) pe_int) pa_nil)))))
      (pss_cons (ps_set (i := 10) S.nd rfl (by first | exact Or.inl rfl | exact Or.inr rfl) (pe_ix ix_tup (pe_tup (pa_cons pe_str (pa_cons (pe_ix ix_str pe_str (pe_fn K__law_draw (hr.mono (by decide : 1 ≤ 8)) rfl (pa_cons (pe_op op_add (pv 7) (pv 8)) (pa_cons pe_int (pa_cons pe_int pa_nil)))) (fun _ _ => rfl)) pa_nil))) (pe_fn K__law_draw (hr.mono (by decide : 1 ≤ 8)) rfl (pa_cons (pe_op op_add (pv 7) (pv 8)) (pa_cons pe_int (pa_cons pe_int pa_nil)))) (fun _ _ => rfl)))
      (pss_one (ps_if (pt_not (pt_val (pe_fn K__law_right hr rfl (pa_cons (pe_op op_add_str (pe_op op_add_str (pe_slice sl_str (pv 5) po_none (po_some (pv 9))) (pv 10)) (pe_slice sl_str (pv 5) (po_some (pe_op op_add (pv 9) (pe_fn K__law_draw (hr.mono (by decide : 1 ≤ 8)) rfl (pa_cons (pe_op op_add (pv 7) (pv 8)) (pa_cons pe_int (pa_cons pe_int pa_nil)))))) po_none)) pa_nil)))) (pss_one (ps_ret pe_bl))
      pss_nil)))))
      (pss_cons (ps_if (pt_not (pt_val (pe_callB (call_all_list hr.hd) rfl T.z_all bt_all (pa_cons (pe_comp (N' := ["_law_other"]) (cap := [none]) rfl (pi_list (pe_fn0 K__law_few (hr.mono (by decide : 1 ≤ 8)) rfl)) (by show scopeOk _ (defScope s_law) = true; decide +kernel) (by show capsOk ["_law_script", "_law_cell", "_law_most", "_law_parts", "_law_number", "_law_text", "_law_handed", "_law_more", "_law_k", "_law_at", "_law_sign"] _ _ _ = true; decide +kernel) (fun _ _ _ _ => ⟨(pg_name (i := 0) (show List.Nodup (["_law_other"] : List Str) by decide +kernel) rfl (by first | exact Or.inl rfl | exact Or.inr rfl)), pf_nil, (pe_fn K__law_right hr rfl (pa_cons (pv 0) pa_nil))⟩)) pa_nil)))) (pss_one (ps_ret pe_bl))
      pss_nil)
      (pss_one (ps_ret (pe_callB (call_all_list hr.hd) rfl T.z_all bt_all (pa_cons (pe_comp (N' := ["_law_thing"]) (cap := [none]) rfl (pi_list (pe_lst (pa_cons pe_non (pa_cons pe_int (pa_cons (pe_lst (pa_cons pe_str pa_nil)) (pa_cons pe_bl pa_nil)))))) (by show scopeOk _ (defScope s_law) = true; decide +kernel) (by show capsOk ["_law_script", "_law_cell", "_law_most", "_law_parts", "_law_number", "_law_text", "_law_handed", "_law_more", "_law_k", "_law_at", "_law_sign"] _ _ _ = true; decide +kernel) (fun _ _ _ _ => ⟨(pg_name (i := 0) (show List.Nodup (["_law_thing"] : List Str) by decide +kernel) rfl (by first | exact Or.inl rfl | exact Or.inr rfl)), pf_nil, (pe_fn K__law_refused (hr.mono (by decide : 7 ≤ 8)) rfl (pa_cons (pv 0) pa_nil))⟩)) pa_nil)))))))))))))), ?_⟩
  walk_at "rd"
  refine ⟨a, ns, 0, rfl, hq, hl, a, ns, 1, rfl, hq, hl, _, rfl, .inl ⟨by decide, by decide⟩, _, rfl, by decide, fun p0 hp0 => ?_⟩
  generalize cellAt ns 0 + 31 * cellAt ns 1 = c
  have s0 := Same.upd hp0 (HO.tup [V.int 5, V.int 50])
  refine ⟨c, 6, 2, rfl, by decide, by decide, fun H1 s1 => ?_⟩
  obtain ⟨m, hm, hat⟩ : ∃ m : Int, (m = 5 ∨ m = 50) ∧ atI [V.int 5, V.int 50] (draw c 6 2) = some (V.int m) := by
    have := draw_lt (c := c) (k := 6) (m := 2) (by decide)
    rcases (show draw c 6 2 = 0 ∨ draw c 6 2 = 1 by omega) with e | e
    · rw [e]
      exact ⟨5, .inl rfl, atI_nat (j := 0) rfl⟩
    · rw [e]
      exact ⟨50, .inr rfl, atI_nat (j := 1) rfl⟩
  have s01 := s0.trans s1
  refine ⟨p0, _, _, _, rfl, rfl, SqT.of (s1 _ _ upd_same), hat, ?_⟩
  have n14 := draw_lt (c := c) (k := 1) (m := 4) (by decide)
  refine rng1_as ?_
  walk_at "rd"
  refine ⟨c, 1, 4, rfl, by decide, by decide, fun H2 s2 => ⟨_, rfl, ?_⟩⟩
  generalize hN : (1 + draw c 1 4).toNat = N
  have N14 : 1 ≤ N ∧ N ≤ 4 := by omega
  refine ⟨by omega, by omega, ?_⟩
  refine comp_rangeS (fun i => .int (draw c (2 + i.toNat) m)) (Nat.le_trans N14.2 (by decide)) (fun i hi H3 s3 R r => ?_) (fun D H3 s3 fD hD => ?_)
  · walk_at "rd"
    rw [show ((0 : Int) + (i : Int)).toNat = i by omega] at r
    exact ⟨_, rfl, _, rfl, c, 2 + i, m, by rw [show 2 + ((0 : Int) + (i : Int)) = ((2 + i : Nat) : Int) by omega], by omega, by omega, r⟩
  have hD' : H3 D = some (HO.lst (((List.range N).map fun i : Nat => draw c (2 + ((0 : Int) + (i : Int)).toNat) m).map V.int)) := by
    rw [List.map_map]
    exact hD
  have hds : ∀ d ∈ ((List.range N).map fun i : Nat => draw c (2 + ((0 : Int) + (i : Int)).toNat) m), 0 ≤ d ∧ d ≤ 49 := fun d hd => by
    obtain ⟨i, _, rfl⟩ := List.mem_map.mp hd
    have := draw_lt (c := c) (k := 2 + ((0 : Int) + (i : Int)).toNat) (m := m) (by omega)
    omega
  have hdl : ((List.range N).map fun i : Nat => draw c (2 + ((0 : Int) + (i : Int)).toNat) m).length = N := by
    rw [List.length_map, List.length_range]
  generalize ((List.range N).map fun i : Nat => draw c (2 + ((0 : Int) + (i : Int)).toNat) m) = ds at hD' hds hdl
  refine ⟨D, rfl, ds, SqL.of hD', by omega, fun ps l hperm hpw fl => ?_⟩
  have hps : ∀ p ∈ ps, 0 ≤ p ∧ p ≤ 49 := fun p hp => hds p (hperm.mem_iff.mp hp)
  have hpl : ps.length = N := by rw [hperm.length_eq, hdl]
  have hsum := sum_le hps
  have hsn := sumSq_nonneg ps
  have hn : 0 ≤ sumSq ps ∧ sumSq ps ≤ 10000 := by omega
  have hr : riseB ps = true := by
    rw [rise_iff]
    exact decide_eq_true hpw
  have hL : upd H3 l (HO.lst (ps.map V.int)) l = some (HO.lst (ps.map V.int)) := upd_same
  have hok : ∀ p ∈ ps, 0 ≤ p ∧ p ≤ 10000 := fun p hp => ⟨(hps p hp).1, by have := hps p hp; omega⟩
  have s4 : Same H (upd H3 l (HO.lst (ps.map V.int))) := ((s01.trans s2).trans s3).trans (Same.upd fl _)
  generalize upd H3 l (HO.lst (ps.map V.int)) = H4 at hL s4 ⊢
  have hz4 : (ps.map V.int).length ≤ sizeLine := by
    rw [List.length_map]
    exact Nat.le_trans (show ps.length ≤ 4 by omega) (by decide)
  refine rd_comp fSq rfl (SqL.of hL) hz4 (fun x hx R r => ?_) (fun D2 fD2 => ?_)
  · obtain ⟨v, hv, rfl⟩ := List.mem_map.mp hx
    have hv' := hps v hv
    walk_at "rd"
    exact ⟨.inl ⟨by omega, by omega⟩, r⟩
  rw [map_fSq]
  have s5 := s4.trans (Same.upd fD2 (.lst ((ps.map fun x => x * x).map V.int)))
  have hL5 := Same.upd fD2 (.lst ((ps.map fun x => x * x).map V.int)) _ _ hL
  refine ⟨D2, rfl, ps.map fun x => x * x, SqL.of upd_same, ?_⟩
  generalize upd H4 D2 (.lst ((ps.map fun x => x * x).map V.int)) = H5 at s5 hL5 ⊢
  rw [show (ps.map fun x => x * x).sum = sumSq ps from rfl]
  have n10 := num_len hn.1 hn.2
  have j60 := joined_len (show ps.length ≤ 4 by omega) hok
  refine ⟨log_ok hn.1 hn.2, Nat.le_trans (Nat.add_le_add n10 (Nat.le_of_eq sEq_len)) (by decide), ?_⟩
  walk_at "rt"
  refine rd_comp fWr rfl (SqL.of hL5) hz4 (fun x hx R r => ?_) (fun D6 fD6 => ?_)
  · obtain ⟨v, hv, rfl⟩ := List.mem_map.mp hx
    have hv' := hok v hv
    walk_at "rd"
    have l2 : (Str.ofString (toString v)).length + (Str.ofString "^2").length ≤ sizeLine := by
      rw [← Str.length_append]
      exact Nat.le_trans (piece_len hv'.1 hv'.2) (by decide)
    exact ⟨log_ok hv'.1 hv'.2, l2, r⟩
  rw [map_fWr]
  have s6 := s5.trans (Same.upd fD6 (.lst ((ps.map fun p => Str.ofString (toString p) ++ sSq).map V.str)))
  have hL6 := Same.upd fD6 (.lst ((ps.map fun p => Str.ofString (toString p) ++ sSq).map V.str)) _ _ hL5
  refine ⟨D6, rfl, ps.map fun p => Str.ofString (toString p) ++ sSq, SqL.of upd_same, join_ok (by omega) hok, ?_⟩
  generalize upd H5 D6 (.lst ((ps.map fun p => Str.ofString (toString p) ++ sSq).map V.str)) = H6 at s6 hL6 ⊢
  have hle : (Str.ofString (toString (sumSq ps)) ++ Str.ofString " = ").length + ((Str.ofString " + ").join (ps.map fun p => Str.ofString (toString p) ++ sSq)).length ≤ 73 := by
    rw [Str.length_append]
    have e3 := sEq_len
    exact Nat.add_le_add (Nat.add_le_add n10 (Nat.le_of_eq e3)) j60
  refine ⟨Nat.le_trans hle (by decide), _, .inl (SqL.of hL6), fun lc flc => ?_⟩
  have s7 := s6.trans (Same.upd flc (.lst (ps.map V.int)))
  have hL7 := Same.upd flc (.lst (ps.map V.int)) _ _ hL6
  have hC7 : upd H6 lc (.lst (ps.map V.int)) lc = some (.lst (ps.map V.int)) := upd_same
  generalize upd H6 lc (.lst (ps.map V.int)) = H7 at s7 hL7 hC7 ⊢
  refine ⟨sumSq ps, lc, ps, rfl, hC7, okI_iff.mpr hn, by omega, by omega, by rw [parts_iff hok]; exact decide_eq_true ⟨hr, rfl⟩, fun H8 s8 => ⟨rfl, ?_⟩⟩
  rw [show Str.ofString (toString (sumSq ps)) ++ Str.ofString " = " ++ (Str.ofString " + ").join (ps.map fun p => Str.ofString (toString p) ++ sSq) = wr (sumSq ps) ps from rfl, if_neg (fun c => c rfl)]
  refine ⟨.list (ps.map .int), .lst (SqL.of (s8 _ _ hC7)) (Dts.ints ps), .list (ps.map .int), .lst (SqL.of (s8 _ _ hL7)) (Dts.ints ps), shaped_ints _, shaped_ints _, ?_⟩
  rw [show PyData.eqv (.list (ps.map .int)) (.list (ps.map .int)) = true by simp only [PyData.eqv, eqv_ints]; simp, if_neg (by decide)]
  have hwl : (wr (sumSq ps) ps).length ≤ 73 := by
    show (Str.ofString (toString (sumSq ps)) ++ Str.ofString " = " ++ (Str.ofString " + ").join (ps.map fun p => Str.ofString (toString p) ++ sSq)).length ≤ 73
    rw [Str.length_append]
    exact hle
  have s08 := s7.trans s8
  refine ⟨_, rfl, by omega, fun H9 s9 => ⟨true, rfl, ?_⟩⟩
  rw [if_neg (by decide)]
  have hq9 := (s08.trans s9).seq hq
  refine ⟨a, ns, 2, rfl, hq9, hl, a, ns, 0, rfl, hq9, hl, _, rfl, .inl ⟨by decide, by decide⟩, _, rfl, ?_⟩
  generalize wr (sumSq ps) ps = z at hwl ⊢
  generalize cellAt ns 2 + 7 * cellAt ns 0 = d
  have zs : z.length ≤ sizeLine := Nat.le_trans hwl (by decide)
  refine ⟨2, rfl, by decide, by decide, for_range (n := 2) (fun i σ H1 => ∃ y8 y9 y10 : Option V, σ = [some (.ref a), some (.int c), some (.int m), some (.ref l), some (.int (sumSq ps)), some (.str z), some (.ref lc), some (.int d), y8, y9, y10]) ⟨_, _, _, rfl⟩ ?_ ?_⟩
  · rintro i σ H1 hi ⟨y8, y9, y10, rfl⟩
    walk_at "rd"
    walk_at "rt"
    generalize d + (0 + (i : Int)) = e
    refine ⟨zs, e, 1, _, rfl, by decide, by omega, fun H2 s2 => ⟨e, 2, 16, rfl, by decide, by decide, fun H3 s3 => ?_⟩⟩
    obtain ⟨ch, hch⟩ : ∃ ch, atI (Str.ofString "0123456789=+^ -x").cps.toList (draw e 2 16) = some ch := by
      have h16 : (Str.ofString "0123456789=+^ -x").cps.toList.length = 16 := by decide +kernel
      have hd := draw_lt (c := e) (k := 2) (m := 16) (by decide)
      obtain ⟨j, hj⟩ : ∃ j : Nat, draw e 2 16 = (j : Int) := ⟨(draw e 2 16).toNat, by omega⟩
      rw [hj]
      have hj' : j < (Str.ofString "0123456789=+^ -x").cps.toList.length := by omega
      exact ⟨_, atI_nat (List.getElem?_eq_getElem hj')⟩
    refine ⟨_, _, ch, rfl, rfl, by decide +kernel, hch, by decide, fun p fp => ⟨e, 3, 2, rfl, by decide, by decide, fun H4 s4 => ?_⟩⟩
    obtain ⟨g, hg, hat⟩ : ∃ g : Str, g.length ≤ 1 ∧ atI [V.str (Str.ofString ""), V.str ⟨#[ch]⟩] (draw e 3 2) = some (V.str g) := by
      have := draw_lt (c := e) (k := 3) (m := 2) (by decide)
      rcases (show draw e 3 2 = 0 ∨ draw e 3 2 = 1 by omega) with h | h
      · rw [h]
        exact ⟨_, by decide +kernel, atI_nat (j := 0) rfl⟩
      · rw [h]
        exact ⟨⟨#[ch]⟩, Nat.le_refl 1, atI_nat (j := 1) rfl⟩
    refine ⟨p, _, _, _, rfl, rfl, SqT.of (s4 _ _ upd_same), hat, _, rfl, zs, g, rfl, ?_⟩
    have c1 := cutS_length z none (some (draw e 1 ((z.length : Int) + 1)))
    refine ⟨Nat.le_trans (Nat.add_le_add c1 hg) (Nat.le_trans (Nat.add_le_add_right hwl 1) (by decide)), e, 4, 2, rfl, by decide, by decide, fun H5 s5 => ⟨_, rfl, _, rfl, zs, ?_⟩⟩
    have c2 := cutS_length z (some (draw e 1 ((z.length : Int) + 1) + draw e 4 2)) none
    have c3 : (cutS z none (some (draw e 1 ((z.length : Int) + 1))) ++ g).length + (cutS z (some (draw e 1 ((z.length : Int) + 1) + draw e 4 2)) none).length ≤ 200 := by
      rw [Str.length_append]
      omega
    refine ⟨Nat.le_trans c3 (by decide), _, rfl, by rw [Str.length_append]; omega, fun H6 s6 => ⟨true, rfl, ?_⟩⟩
    rw [if_neg (by decide)]
    exact ⟨_, rfl⟩
  · rintro σ H1 ⟨y8, y9, y10, rfl⟩
    walk_at "rd"
    refine list_as ?_
    walk_at "rd"
    refine ⟨rfl, fun lf zs2 H2 s2 f2 h2 k2 z2 => ⟨lf, rfl, ⟨_, SqL.of h2⟩, comp_listS (fun _ => .bl true) (SqL.of h2) (by rw [List.length_map]; exact Nat.le_trans k2 (by decide)) (fun x hx H3 s3 R r => ?_) (fun D H3 s3 fD hD => ?_)⟩⟩
    · obtain ⟨v, hv, rfl⟩ := List.mem_map.mp hx
      walk_at "rd"
      exact ⟨v, rfl, z2 v hv, r⟩
    refine ⟨D, rfl, (zs2.map V.str).map fun _ => true, SqL.of (by rw [List.map_map]; exact hD), ?_⟩
    rw [show ((zs2.map V.str).map fun _ => true).all id = true by rw [List.all_map]; simp, if_neg (by decide)]
    refine list_as ?_
    walk_at "rd"
    refine ⟨by decide, fun p fp => ⟨by decide, fun p1 fp1 => ?_⟩⟩
    have h4 : upd (upd H3 p (HO.lst [V.str (Str.ofString "0 = 0^2")])) p1 (HO.lst [V.non, V.int 5, V.ref p, V.bl true]) p1 = some (HO.lst [V.non, V.int 5, V.ref p, V.bl true]) := upd_same
    have hp4 := Same.upd fp1 (HO.lst [V.non, V.int 5, V.ref p, V.bl true]) p _ upd_same
    generalize upd (upd H3 p (HO.lst [V.str (Str.ofString "0 = 0^2")])) p1 (HO.lst [V.non, V.int 5, V.ref p, V.bl true]) = H4 at h4 hp4 ⊢
    refine ⟨⟨_, SqL.of h4⟩, comp_listS (fun _ => .bl true) (SqL.of h4) (show 4 ≤ sizeLine by decide) (fun x hx H5 s5 R r => ?_) (fun D5 H5 s5 fD5 hD5 => ?_)⟩
    · walk_at "rd"
      refine ⟨x, rfl, .inr ?_, r⟩
      rcases List.mem_cons.mp hx with rfl | hx
      · exact .inl rfl
      rcases List.mem_cons.mp hx with rfl | hx
      · exact .inr (.inl ⟨_, rfl⟩)
      rcases List.mem_cons.mp hx with rfl | hx
      · exact .inr (.inr (.inr ⟨p, _, rfl, s5 _ _ hp4⟩))
      rcases List.mem_cons.mp hx with rfl | hx
      · exact .inr (.inr (.inl ⟨_, rfl⟩))
      cases hx
    exact ⟨D5, rfl, [true, true, true, true], SqL.of hD5, q _⟩
end
end Sq

namespace Sq
open PySem L2
theorem the_law {P : Program} {w : World} {K : PySem.W.Frag} {mg : Str → Option Value} {base : Heap} {t : Adr} (T : Txt K mg t) : Known P w K mg base 9 "law" ["_law_script"] (spLaw K) := by
  have n1 := ok_is_whole (P := P) (w := w) (base := base) T
  have n2 := ok_is_number T n1
  have n3 := ok_refuse_no_number T n2
  have pf := ok_are_parts_of T n2
  have dr := ok_law_draw (P := P) (w := w) (base := base) T
  have rn := ok_read_number T n2
  have rd := ok_read T rn (ok_read_parts T (ok_read_part T rn)) pf
  have wn := ok_written T n3 (ok_are_few T) pf
  have rf := ok_law_refused T rd
  exact ok_law8 T (ok_law_cell_at T) dr wn (ok_law_right T rd wn (ok_law_in T (ok_law_count T)) rf) (ok_law_few T) rf
end Sq

namespace Sq
open PySem L2

theorem walk {l : PySem.W.OpenLaw} {q : Program} {loose : List Str} {XP : (Str → Option Value) → Heap → Prop} {YP : World → Heap → Prop} {d : DefRec} {K : Params → PySem.W.Frag} (hn : l.most = some 63) (hdf : d.params.defaults = [])
    (hY : ∀ (w : World) (h : Heap), YP w h → (K w.params).In h)
    (F : ∀ (w : World) (mg : Str → Option Value) (fa : Addr) (h : Heap), (K w.params).In h → h.Ns mainGlobals mg → mg d.name = some (.ref fa) →
      ∃ fd : FuncData, (∀ (s : Shared) (u : Value), BindsTo s fd ⟨[u], []⟩ [("_law_script", u)]) ∧ ∀ base : Heap, (K w.params).In base → base.Ns mainGlobals mg → FnOk l.prog w (K w.params) mg base CX0 60 fa fd ["_law_script"] (spLaw (K w.params))) :
    PySem.W.WalkO q loose XP YP l.row.toRowW d [] (fun f vs => PySem.call f vs) :=
  L2.walk_of (n := 63) (k := 60) (x := "_law_script") (CX := fun _ => CX0) (sp := fun w => spLaw (K w.params)) hn (by decide) hdf ⟨rfl, by decide, by decide⟩ hY F (fun _ _ a ns hl _ hS => ⟨a, ns, rfl, hS, hl, fun _ => rfl⟩) fun _ _ _ _ _ z => z
end Sq
open PySem PySem.W PyProof.Rows
set_option maxRecDepth 100000 in
set_option maxHeartbeats 0 in
theorem PySem.Challenge.cw_squarefield_k08_written_holds : PySem.Challenge.rw_squarefield_k08_written.Holds := by
  w_on; o_law; k_head; (case hw => w_witness2)
  k_fill
  refine Sq.walk (l := PySem.Challenge.rw_squarefield_k08_written) rfl rfl (fun w h Y => PySem.W.kIn_of Y) ?F
  case F =>
    intro w mg fa h KX G hmg
    have T : ∃ t, Sq.Txt (L2.KOf KX) mg t := by
      dsimp only [L2.KOf]
      refine' Sq.txt_mk KX G ?z_ValueError ?z_isinstance ?z_int ?z_bool ?z_str ?z_list ?z_tuple ?z_len ?z_all ?z_any ?z_sorted ?z_sum ?z_range ?g_MOST_NUMBER ?g_MOST_PARTS ?g_FIGURES ?m_SquareError ?m_BadNumber ?m_BadPrime ?m_BadParts ?m_BadWalk ?m_BadText ?ndp ?hn ?htk ?ic_BadNumber ?tc_BadNumber ?ic_BadParts ?tc_BadParts ?ic_BadPrime ?tc_BadPrime ?ic_BadWalk ?tc_BadWalk ?ne_BadText_BadNumber ?kk_BadText_BadNumber ?ne_BadText_BadPrime ?kk_BadText_BadPrime ?ne_BadText_BadParts ?kk_BadText_BadParts ?ne_BadText_BadWalk ?kk_BadText_BadWalk ?kk_BadText_ValueError ?x_BadText ?hd_BadText ?ga_BadText ?gh_BadText ?ca_BadText ?mr_BadText ?sb_BadText ?cb_SquareError ?ci_SquareError ?ct_SquareError ?cc_BadText_SquareError ?a_is_whole ?l_is_whole ?c_is_whole ?k_is_whole ?a_is_number ?l_is_number ?c_is_number ?k_is_number ?a_refuse_no_number ?l_refuse_no_number ?c_refuse_no_number ?k_refuse_no_number ?a_are_parts_of ?l_are_parts_of ?c_are_parts_of ?k_are_parts_of ?a_written ?l_written ?c_written ?k_written ?a_are_few ?l_are_few ?c_are_few ?k_are_few ?a_read ?l_read ?c_read ?k_read ?a_read_parts ?l_read_parts ?c_read_parts ?k_read_parts ?a_read_part ?l_read_part ?c_read_part ?k_read_part ?a_read_number ?l_read_number ?c_read_number ?k_read_number ?a__law_cell_at ?l__law_cell_at ?c__law_cell_at ?k__law_cell_at ?a__law_draw ?l__law_draw ?c__law_draw ?k__law_draw ?a__law_count ?l__law_count ?c__law_count ?k__law_count ?a__law_in ?l__law_in ?c__law_in ?k__law_in ?a__law_refused ?l__law_refused ?c__law_refused ?k__law_refused ?a__law_right ?l__law_right ?c__law_right ?k__law_right ?a__law_few ?l__law_few ?c__law_few ?k__law_few ?a_law ?l_law ?c_law ?k_law
      (case z_ValueError => k_is)
      (case z_isinstance => k_is)
      (case z_int => k_is)
      (case z_bool => k_is)
      (case z_str => k_is)
      (case z_list => k_is)
      (case z_tuple => k_is)
      (case z_len => k_is)
      (case z_all => k_is)
      (case z_any => k_is)
      (case z_sorted => k_is)
      (case z_sum => k_is)
      (case z_range => k_is)
      (case g_MOST_NUMBER => k_is)
      (case g_MOST_PARTS => k_is)
      (case g_FIGURES => k_is)
      (case m_SquareError => k_is)
      (case m_BadNumber => k_is)
      (case m_BadPrime => k_is)
      (case m_BadParts => k_is)
      (case m_BadWalk => k_is)
      (case m_BadText => k_is)
      (case ndp => decide)
      (case hn => k_is)
      (case htk => k_is)
      (case ic_BadNumber => k_is)
      (case tc_BadNumber => k_is)
      (case ic_BadParts => k_is)
      (case tc_BadParts => k_is)
      (case ic_BadPrime => k_is)
      (case tc_BadPrime => k_is)
      (case ic_BadWalk => k_is)
      (case tc_BadWalk => k_is)
      (case ne_BadText_BadNumber => decide)
      (case kk_BadText_BadNumber => k_is)
      (case ne_BadText_BadPrime => decide)
      (case kk_BadText_BadPrime => k_is)
      (case ne_BadText_BadParts => decide)
      (case kk_BadText_BadParts => k_is)
      (case ne_BadText_BadWalk => decide)
      (case kk_BadText_BadWalk => k_is)
      (case kk_BadText_ValueError => k_is)
      (case x_BadText => k_exc)
      (case hd_BadText => k_is)
      (case ga_BadText => k_is)
      (case gh_BadText => k_is)
      (case ca_BadText => k_is)
      (case mr_BadText => k_is)
      (case sb_BadText => k_is)
      (case cb_SquareError => k_is)
      (case ci_SquareError => k_is)
      (case ct_SquareError => k_is)
      (case cc_BadText_SquareError => k_is)
      (case a_is_whole => k_is)
      (case l_is_whole => k_is)
      (case c_is_whole => k_is)
      (case k_is_whole => k_is)
      (case a_is_number => k_is)
      (case l_is_number => k_is)
      (case c_is_number => k_is)
      (case k_is_number => k_is)
      (case a_refuse_no_number => k_is)
      (case l_refuse_no_number => k_is)
      (case c_refuse_no_number => k_is)
      (case k_refuse_no_number => k_is)
      (case a_are_parts_of => k_is)
      (case l_are_parts_of => k_is)
      (case c_are_parts_of => k_is)
      (case k_are_parts_of => k_is)
      (case a_written => k_is)
      (case l_written => k_is)
      (case c_written => k_is)
      (case k_written => k_is)
      (case a_are_few => k_is)
      (case l_are_few => k_is)
      (case c_are_few => k_is)
      (case k_are_few => k_is)
      (case a_read => k_is)
      (case l_read => k_is)
      (case c_read => k_is)
      (case k_read => k_is)
      (case a_read_parts => k_is)
      (case l_read_parts => k_is)
      (case c_read_parts => k_is)
      (case k_read_parts => k_is)
      (case a_read_part => k_is)
      (case l_read_part => k_is)
      (case c_read_part => k_is)
      (case k_read_part => k_is)
      (case a_read_number => k_is)
      (case l_read_number => k_is)
      (case c_read_number => k_is)
      (case k_read_number => k_is)
      (case a__law_cell_at => k_is)
      (case l__law_cell_at => k_is)
      (case c__law_cell_at => k_is)
      (case k__law_cell_at => k_is)
      (case a__law_draw => k_is)
      (case l__law_draw => k_is)
      (case c__law_draw => k_is)
      (case k__law_draw => k_is)
      (case a__law_count => k_is)
      (case l__law_count => k_is)
      (case c__law_count => k_is)
      (case k__law_count => k_is)
      (case a__law_in => k_is)
      (case l__law_in => k_is)
      (case c__law_in => k_is)
      (case k__law_in => k_is)
      (case a__law_refused => k_is)
      (case l__law_refused => k_is)
      (case c__law_refused => k_is)
      (case k__law_refused => k_is)
      (case a__law_right => k_is)
      (case l__law_right => k_is)
      (case c__law_right => k_is)
      (case k__law_right => k_is)
      (case a__law_few => k_is)
      (case l__law_few => k_is)
      (case c__law_few => k_is)
      (case k__law_few => k_is)
      (case a_law => k_is)
      (case l_law => k_is)
      (case c_law => k_is)
      (case k_law => k_is)
    obtain ⟨t, T⟩ := T
    exact L2.top_law (k := 9) T.h_law hmg (by decide) (fun base => Sq.the_law T) (fun _ _ _ _ _ _ s u => .of_eq rfl)

