import PyProof.Rows.All
import Wide.All
import OpenK.AllK
import Wide.FinOn
import Lean
import PyProof.EqAt
import PyProof.EqKinds
import PyProof.TupleCall
import PySem.Challenge.RW_leastfloor_k52_trees_refused
set_option Elab.async false
set_option linter.all false
set_option maxRecDepth 100000
/-! THE HAND LAYER, for ints, bools, texts, own classes, LISTS and tuples (index, slices, in, append, pop ..), calls, loops. Paste it whole ahead of your own text; what your proof does not reach may be deleted. -/
namespace L2
open PySem PySem.Spec PyProof.Rows

/-- a key: an int or a str -/
abbrev Key := Sum Int Str
def keyIs : Key → Value → Bool
  | .inl k, v => Value.isInt k v
  | .inr x, v => Value.isStrOf x v
def keyH (w : World) : Key → Int
  | .inl k => hashInt k
  | .inr x => hashStr w x
theorem keyIs_shape : ∀ {k : Key} {v : Value}, keyIs k v = true → (∃ i t, k = Sum.inl i ∧ v = Value.int i t) ∨ (∃ x t, k = Sum.inr x ∧ v = Value.str x t)
  | .inl i, v, h => by
    obtain ⟨t, e⟩ := Value.isInt_shape (k := i) (v := v) h
    exact .inl ⟨i, t, rfl, e⟩
  | .inr x, v, h => by
    obtain ⟨t, e⟩ := Value.isStrOf_shape (x := x) (v := v) h
    exact .inr ⟨x, t, rfl, e⟩
theorem key_ll (a b : Int) : decide ((Sum.inl a : Key) = Sum.inl b) = (a == b) := by
  by_cases e : a = b
  · subst e; simp
  · have h : ¬ (Sum.inl a : Key) = Sum.inl b := fun q => e (Sum.inl.inj q)
    rw [decide_eq_false h]
    exact (beq_eq_false_iff_ne.mpr e).symm
theorem key_rr (a b : Str) : decide ((Sum.inr a : Key) = Sum.inr b) = decide (a = b) := by
  by_cases e : a = b
  · subst e; simp
  · have h : ¬ (Sum.inr a : Key) = Sum.inr b := fun q => e (Sum.inr.inj q)
    rw [decide_eq_false h, decide_eq_false e]
theorem key_lr (a : Int) (b : Str) : decide ((Sum.inl a : Key) = Sum.inr b) = false := decide_eq_false (fun q => nomatch q)
theorem key_rl (a : Str) (b : Int) : decide ((Sum.inr a : Key) = Sum.inl b) = false := decide_eq_false (fun q => nomatch q)

def mixKind (prog : Program) (w : World) : PySem.KeyKind prog w Key where
  is := keyIs
  hash := keyH w
  inj := fun v a b ha hb => by
    rcases keyIs_shape ha with ⟨i, t, rfl, rfl⟩ | ⟨x, t, rfl, rfl⟩
    · rcases keyIs_shape hb with ⟨j, u, rfl, e⟩ | ⟨y, u, rfl, e⟩
      · injection e with e1 _; rw [e1]
      · exact nomatch e
    · rcases keyIs_shape hb with ⟨j, u, rfl, e⟩ | ⟨y, u, rfl, e⟩
      · exact nomatch e
      · injection e with e1 _; rw [e1]
  byValue := fun k v h => by
    rcases keyIs_shape h with ⟨i, t, rfl, rfl⟩ | ⟨x, t, rfl, rfl⟩ <;> rfl
  pyHash := fun hv h => by
    rcases keyIs_shape hv with ⟨i, t, rfl, rfl⟩ | ⟨x, t, rfl, rfl⟩
    · exact wpAny_pyHash_int h
    · exact wpAny_pyHash_str h
  eqBool := fun hu hv h => by
    rcases keyIs_shape hu with ⟨i, t, rfl, rfl⟩ | ⟨x, t, rfl, rfl⟩
    · rcases keyIs_shape hv with ⟨j, u, rfl, rfl⟩ | ⟨y, u, rfl, rfl⟩
      · rw [key_ll] at h; exact wpAny_eqBool_int h
      · rw [key_lr] at h; exact SeqAt.EqAt.int_str i t y u _ _ _ _ h
    · rcases keyIs_shape hv with ⟨j, u, rfl, rfl⟩ | ⟨y, u, rfl, rfl⟩
      · rw [key_rl] at h; exact SeqAt.EqAt.str_int x t j u _ _ _ _ h
      · rw [key_rr] at h; exact wpAny_eqBool_str h
  «strs» := fun k x t v h => by
    rcases keyIs_shape h with ⟨i, u, rfl, e⟩ | ⟨y, u, rfl, e⟩
    · exact nomatch e
    · injection e with e1 _
      subst e1
      cases v <;> rfl

end L2

namespace L2
open PySem PySem.Spec PyProof.Rows

/-- a value, without the heap -/
inductive V where
  | non | bl (b : Bool) | int (i : Int) | str (x : Str) | byt (b : Array UInt8) | flt (b : UInt64) | ref (a : Addr) | ty (n : String)
  deriving DecidableEq

def RelV : V → Value → Prop
  | .non, u => u = Value.none
  | .bl b, u => u = Value.bool b
  | .int i, u => ∃ t, u = Value.int i t
  | .str x, u => ∃ t, u = Value.str x t
  | .byt b, u => ∃ t, u = Value.bytes b t
  | .flt b, u => ∃ t, u = Value.float b t
  | .ref a, u => u = Value.ref a
  | .ty n, u => u = Value.type n

abbrev Vals : List V → List Value → Prop := Paired RelV
theorem Vals.length {xs : List V} {us : List Value} (r : Vals xs us) : xs.length = us.length := Paired.length r
theorem Vals.get : ∀ {xs : List V} {us : List Value} {i : Nat} {x : V}, Vals xs us → xs[i]? = some x → ∃ u, us[i]? = some u ∧ RelV x u
  | _, _, _, _, .nil, e => by simp at e
  | _, _, 0, _, .cons r _, e => by simp at e; subst e; exact ⟨_, rfl, r⟩
  | _, _, i + 1, x, .cons _ t, e => by
    obtain ⟨u, h1, h2⟩ := Vals.get (i := i) (x := x) t (by simpa using e)
    exact ⟨u, by simpa using h1, h2⟩
theorem Vals.set {x : V} {u : Value} (r : RelV x u) : ∀ {xs : List V} {us : List Value} (i : Nat), Vals xs us → Vals (xs.set i x) (us.set i u)
  | _, _, _, .nil => .nil
  | _, _, 0, .cons _ t => .cons r t
  | _, _, i + 1, .cons q t => .cons q (Vals.set r i t)
theorem Vals.append : ∀ {xs ys : List V} {us ws : List Value}, Vals xs us → Vals ys ws → Vals (xs ++ ys) (us ++ ws)
  | _, _, _, _, .nil, s => s
  | _, _, _, _, .cons r t, s => .cons r (Vals.append t s)
theorem Vals.take : ∀ {xs : List V} {us : List Value} (n : Nat), Vals xs us → Vals (xs.take n) (us.take n)
  | _, _, 0, _ => .nil
  | _, _, _ + 1, .nil => .nil
  | _, _, n + 1, .cons r t => .cons r (Vals.take n t)
theorem Vals.drop : ∀ {xs : List V} {us : List Value} (n : Nat), Vals xs us → Vals (xs.drop n) (us.drop n)
  | _, _, 0, r => r
  | _, _, _ + 1, .nil => .nil
  | _, _, n + 1, .cons _ t => Vals.drop n t
def RelO : Option V → Option Value → Prop
  | some v, some u => RelV v u
  | none, none => True
  | _, _ => False
def KV {κ : Type} : List (κ × V) → List (κ × Value) → Prop := Paired fun (p : κ × V) (q : κ × Value) => p.1 = q.1 ∧ RelV p.2 q.2

/-- a key of a dict (00_mix): an int or a text -/
def kV : Key → V
  | .inl i => .int i
  | .inr x => .str x

/-- what stands at a tracked address -/
inductive HO where
  /-- a list -/
  | lst (xs : List V)
  /-- a tuple (never changes) -/
  | tup (xs : List V)
  /-- a dict whose keys are ints and texts; one whose keys are tuples of ints and texts (the empty one is both) -/
  | dK (kvs : List (Key × V)) | dT (kvs : List (List Key × V))
  /-- a set of ints: its members, its size -/
  | set (S : Int → Bool) (n : Nat)
  /-- an instance of the class at C, its dict at dx, its attributes -/
  | ins (C dx : Addr) (fs : List (Str × V))
  /-- the dict of the instance at x -/
  | own (x : Addr)
  /-- the dict of an exception -/
  | xd (fs : List (Str × V))
  /-- a bound method, f of x -/
  | met (f x : Addr)
  /-- a range object lo, lo + 1, .. below hi -/
  | rng (lo hi : Int)
  /-- a thing that is known to the object (the script; a dict while a loop walks it): read, never written while it is so -/
  | frz (o : Obj) (u : HO)
  /-- a code object's table -/
  | tbl (ps : Array Value)
  /-- any other thing, by what is true of its one object (a def of one's own: SetO a S n := HO.ext fun h => ..) -/
  | ext (φ : Heap → Prop)

abbrev Hp := Addr → Option HO
def upd (H : Hp) (a : Addr) (o : HO) : Hp := fun b => if b = a then some o else H b
theorem upd_same {H : Hp} {a : Addr} {o : HO} : upd H a o a = some o := by unfold upd; rw [if_pos rfl]
theorem upd_ne {H : Hp} {a b : Addr} {o : HO} (h : b ≠ a) : upd H a o b = H b := by unfold upd; rw [if_neg h]
theorem ne_of_none {H : Hp} {a b : Addr} {o : HO} (h : H a = some o) (h' : H b = none) : a ≠ b := by
  intro e; subst e; rw [h] at h'; cases h'

section
variable (P : Program) (w : World)
def ObjOk (H : Hp) (h : Heap) (a : Addr) : HO → Prop
  | .lst xs => xs.length ≤ sizeLine ∧ ∃ (its : List Value) (n : Nat), Vals xs its ∧ h.get? a = some { cls := .type "list", data := .seq its.toArray n }
  | .tup xs => xs.length ≤ sizeLine ∧ ∃ its : List Value, Vals xs its ∧ IsTup h a its.toArray
  | .dK kvs => kvs.length ≤ sizeLine ∧ (a == sysModules) = false ∧ ∃ vs, KV kvs vs ∧ h.DictOf (mixKind P w) a vs
  | .dT kvs => kvs.length ≤ sizeLine ∧ (a == sysModules) = false ∧ ∃ xs : List (List Key × Addr × Value),
      Paired (fun (p : List Key × V) (q : List Key × Addr × Value) => p.1 = q.1 ∧ H q.2.1 = some (.tup (p.1.map kV)) ∧ RelV p.2 q.2.2) kvs xs ∧
      ∃ o es ep, h.get? a = some o ∧ o.ExactDict ∧ o.data = .dict es ep ∧ es.toList = xs.map (entryOfKey (tupleKind (mixKind P w))) ∧ (xs.map (·.1)).Nodup
  | .set S n => h.SetOf (intKind P w) a S n
  | .ins C dx fs => H dx = some (.own a) ∧ fs.length ≤ 1000 ∧ dx ≠ a ∧ h.get? a = some (PySem.W.instObj C dx) ∧
      ∃ mA, h.Ns1 dx mA ∧ (∀ f, RelO (fs.lookup f) (mA f)) ∧ PySem.Within mA (fs.map (·.1))
  | .own _ => ∃ o, h.get? a = some o
  | .xd fs => ∃ mA, h.Ns1 a mA ∧ ∀ f, RelO (fs.lookup f) (mA f)
  | .rng lo hi => ∃ t u v, h.get? a = some { cls := .type "range", data := .fields #[.int lo t, .int hi u, .int 1 v] }
  | .frz o u => h.get? a = some o ∧ ObjOk H h a u
  | .tbl ps => h.get? a = some { cls := .none, data := .fields ps }
  | .met f x => h.get? a = some (PySem.W.methodObj (.ref f) (.ref x))
  | .ext φ => φ h ∧ (∃ o, h.get? a = some o) ∧ ∀ h1 h2 : Heap, φ h1 → (∀ o, h1.get? a = some o → h2.get? a = some o) → φ h2
/-- the abstract heap is held -/
def HOk (H : Hp) (h : Heap) : Prop := ∀ a o, H a = some o → ObjOk P w H h a o
end

section
variable {P : Program} {w : World} {H H' : Hp} {h h' : Heap} {a : Addr} {o : HO}
theorem ObjOk.lt (x : ObjOk P w H h a o) : a < h.objs.size := by
  cases o with
  | lst xs => obtain ⟨_, _, _, _, e⟩ := x; exact Heap.lt_size e
  | tup xs => obtain ⟨_, _, _, p⟩ := x; exact p.lt
  | dK kvs => obtain ⟨_, _, _, _, o, _, _, e, _⟩ := x; exact Heap.lt_size e
  | dT kvs => obtain ⟨_, _, _, _, o, _, _, e, _⟩ := x; exact Heap.lt_size e
  | set S n => obtain ⟨o, _, _, _, e, _⟩ := x; exact Heap.lt_size e
  | ins C dx fs => obtain ⟨_, _, _, e, _⟩ := x; exact Heap.lt_size e
  | own y => obtain ⟨_, e⟩ := x; exact Heap.lt_size e
  | xd fs => obtain ⟨_, ⟨_, _, _, e, _⟩, _⟩ := x; exact Heap.lt_size e
  | rng lo hi => obtain ⟨_, _, _, e⟩ := x; exact Heap.lt_size e
  | frz ob u => obtain ⟨e, _⟩ := x; exact Heap.lt_size e
  | tbl ps => exact Heap.lt_size (show h.get? a = some _ from x)
  | met f y => exact Heap.lt_size (show h.get? a = some _ from x)
  | ext φ => obtain ⟨_, ⟨_, e⟩, _⟩ := x; exact Heap.lt_size e
theorem Paired.mapP {α β : Type} {F G : α → β → Prop} : ∀ {l₁ : List α} {l₂ : List β}, Paired F l₁ l₂ → (∀ a b, F a b → G a b) → Paired G l₁ l₂
  | _, _, .nil, _ => .nil
  | _, _, .cons r t, f => .cons (f _ _ r) (Paired.mapP t f)
/-- what an object's description leans on: its own object, its own dict, the tuples -/
theorem ObjOk.stay (x : ObjOk P w H h a o) (k : ∀ b u, (b = a ∨ H b = some (.own a)) → h.get? b = some u → h'.get? b = some u)
    (ho : ∀ b, H b = some (.own a) → H' b = some (.own a)) (ht : ∀ b xs, H b = some (.tup xs) → H' b = some (.tup xs)) : ObjOk P w H' h' a o := by
  induction o with
  | lst xs => obtain ⟨z, its, n, r, e⟩ := x; exact ⟨z, its, n, r, k _ _ (.inl rfl) e⟩
  | tup xs => obtain ⟨z, its, r, ob, e, c⟩ := x; exact ⟨z, its, r, ob, k _ _ (.inl rfl) e, c⟩
  | dK kvs => obtain ⟨z, y, vs, r, ob, es, ep, e, c⟩ := x; exact ⟨z, y, vs, r, ob, es, ep, k _ _ (.inl rfl) e, c⟩
  | dT kvs =>
    obtain ⟨z, y, xs, r, ob, es, ep, e, c⟩ := x
    exact ⟨z, y, xs, Paired.mapP r fun p q z => ⟨z.1, ht _ _ z.2.1, z.2.2⟩, ob, es, ep, k _ _ (.inl rfl) e, c⟩
  | set S n => obtain ⟨ob, es, ep, t, e, c⟩ := x; exact ⟨ob, es, ep, t, k _ _ (.inl rfl) e, c⟩
  | ins C dx fs =>
    obtain ⟨d, z, ne, e, mA, ⟨od, es, ep, e2, c⟩, r⟩ := x
    exact ⟨ho _ d, z, ne, k _ _ (.inl rfl) e, mA, ⟨od, es, ep, k _ _ (.inr d) e2, c⟩, r⟩
  | own y => obtain ⟨ob, e⟩ := x; exact ⟨ob, k _ _ (.inl rfl) e⟩
  | xd fs => obtain ⟨mA, ⟨od, es, ep, e, c⟩, r⟩ := x; exact ⟨mA, ⟨od, es, ep, k _ _ (.inl rfl) e, c⟩, r⟩
  | rng lo hi => obtain ⟨t, u, v, e⟩ := x; exact ⟨t, u, v, k _ _ (.inl rfl) e⟩
  | frz ob u ih => obtain ⟨e, q⟩ := x; exact ⟨k _ _ (.inl rfl) e, ih q⟩
  | tbl ps =>
    have e : h.get? a = some { cls := .none, data := .fields ps } := x
    show h'.get? a = some { cls := .none, data := .fields ps }
    exact k a _ (.inl rfl) e
  | met f y =>
    have e : h.get? a = some (PySem.W.methodObj (.ref f) (.ref y)) := x
    show h'.get? a = some (PySem.W.methodObj (.ref f) (.ref y))
    exact k a _ (.inl rfl) e
  | ext φ => obtain ⟨p, ⟨o, e⟩, st⟩ := x; exact ⟨st _ _ p fun o q => k _ _ (.inl rfl) q, ⟨o, k _ _ (.inl rfl) e⟩, st⟩
theorem HOk.lt (x : HOk P w H h) (e : H a = some o) : a < h.objs.size := (x a o e).lt
theorem HOk.fresh (x : HOk P w H h) (e : h.objs.size ≤ a) : H a = none := by
  cases q : H a with
  | none => rfl
  | some u => exact absurd (Nat.lt_of_lt_of_le (x.lt q) e) (Nat.lt_irrefl _)
/-- every object of the heap is kept -/
theorem HOk.kept (x : HOk P w H h) (k : ∀ b u, h.get? b = some u → h'.get? b = some u) : HOk P w H h' := fun a o e =>
  (x a o e).stay (fun b u _ q => k b u q) (fun _ q => q) fun _ _ q => q
/-- a new object is laid and tracked -/
theorem HOk.laid (x : HOk P w H h) (k : ∀ b u, h.get? b = some u → h'.get? b = some u) (hp : h.objs.size ≤ a) (new : ObjOk P w (upd H a o) h' a o) : HOk P w (upd H a o) h' := fun b u e => by
  have hn := x.fresh hp
  by_cases hb : b = a
  · subst hb; rw [upd_same] at e; cases e; exact new
  · rw [upd_ne hb] at e
    exact (x b u e).stay (fun c v _ q => k c v q) (fun c q => by rw [upd_ne (ne_of_none q hn)]; exact q) fun c xs q => by rw [upd_ne (ne_of_none q hn)]; exact q
end

/-- what may be read as u: it is u, or a known u -/
def Rd (H : Hp) (a : Addr) (u : HO) : Prop := H a = some u ∨ ∃ o, H a = some (.frz o u)
theorem Rd.of {H : Hp} {a : Addr} {u : HO} (h : H a = some u) : Rd H a u := .inl h
theorem Rd.ok {P : Program} {w : World} {H : Hp} {h : Heap} {a : Addr} {u : HO} (r : Rd H a u) (x : HOk P w H h) : ObjOk P w H h a u := by
  rcases r with r | ⟨o, r⟩
  · exact x a u r
  · obtain ⟨_, q⟩ := x a _ r
    exact q
/-- what may be written -/
def Mut : Option HO → Prop
  | some (.lst _) => True
  | some (.dK _) => True
  | some (.dT _) => True
  | some (.set _ _) => True
  | some (.ins _ _ _) => True
  | some (.ext _) => True
  | _ => False
section
variable {P : Program} {w : World} {H : Hp} {h h' : Heap} {x e : Addr} {o' : HO}
/-- the object at e is changed: x itself, or the dict of the instance x -/
theorem HOk.write (ok : HOk P w H h) (mu : Mut (H x)) (he : e = x ∨ H e = some (.own x)) (k : ∀ b u, b ≠ e → h.get? b = some u → h'.get? b = some u) (heo : ∃ u, h'.get? e = some u)
    (new : ObjOk P w (upd H x o') h' x o') : HOk P w (upd H x o') h' := fun b u q => by
  have nown : ∀ c y, H c = some (.own y) → c ≠ x := fun c y r z => by subst z; rw [r] at mu; exact mu
  have ntup : ∀ c xs, H c = some (.tup xs) → c ≠ x := fun c xs r z => by subst z; rw [r] at mu; exact mu
  by_cases hb : b = x
  · subst hb; rw [upd_same] at q; cases q; exact new
  · rw [upd_ne hb] at q
    by_cases hbe : b = e
    · have q' : H b = some (.own x) := by
        rcases he with z | z
        · exact absurd (hbe.trans z) hb
        · rw [hbe]; exact z
      rw [q] at q'; cases q'
      obtain ⟨v, hv⟩ := heo
      exact ⟨v, by rw [hbe]; exact hv⟩
    · refine (ok b u q).stay (fun c v hc r => k c v ?_ r) (fun c r => by rw [upd_ne (nown c b r)]; exact r) fun c xs r => by rw [upd_ne (ntup c xs r)]; exact r
      rcases hc with rfl | hc
      · exact hbe
      · rintro rfl
        rcases he with z | z
        · exact nown c b hc z
        · rw [hc] at z; cases z; exact hb rfl
end

/-! ### kept unless tracked; of the frames at fs (the callers') the slots may change (an exception that passes writes there); of the records at ex (iterators) nothing is said -/
structure Un (fs ex : List Addr) (H H' : Hp) (h h' : Heap) : Prop where
  keep : ∀ b o, h.get? b = some o → H b = none → b ∉ fs → b ∉ ex → h'.get? b = some o
  slot : ∀ b o, h.get? b = some o → H b = none → b ∈ fs → b ∉ ex → ∃ sl, h'.get? b = some { o with slots := sl }
  free : ∀ b o, h.get? b = some o → H b = none → b ∉ ex → H' b = none
  there : ∀ b o, h.get? b = some o → b ∉ ex → ∃ o', h'.get? b = some o'
  tups : ∀ b xs, H b = some (.tup xs) → H' b = some (.tup xs)
  frzs : ∀ b o u, H b = some (.frz o u) → H' b = some (.frz o u)
  tbls : ∀ b ps, H b = some (.tbl ps) → ∃ more, H' b = some (.tbl (ps ++ more))
section
variable {fs fs' ex ex' : List Addr} {H H1 H2 : Hp} {h h1 h2 h' : Heap} {a x e : Addr} {o : HO}
theorem Un.any (u : Un fs ex H H1 h h1) {b : Addr} {ob : Obj} (q : h.get? b = some ob) (n : H b = none) (hx : b ∉ ex) : ∃ sl, h1.get? b = some { ob with slots := sl } := by
  by_cases hb : b ∈ fs
  · exact u.slot b ob q n hb hx
  · exact ⟨ob.slots, u.keep b ob q n hb hx⟩
theorem Un.trans (a : Un fs ex H H1 h h1) (b : Un fs ex H1 H2 h1 h2) : Un fs ex H H2 h h2 where
  keep := fun c ob q n hc hx => b.keep c ob (a.keep c ob q n hc hx) (a.free c ob q n hx) hc hx
  slot := fun c ob q n hc hx => by
    obtain ⟨sl, e1⟩ := a.slot c ob q n hc hx
    obtain ⟨sl', e2⟩ := b.slot c _ e1 (a.free c ob q n hx) hc hx
    exact ⟨sl', e2⟩
  free := fun c ob q n hx => by
    obtain ⟨o', e1⟩ := a.there c ob q hx
    exact b.free c o' e1 (a.free c ob q n hx) hx
  there := fun c ob q hx => by
    obtain ⟨o', e1⟩ := a.there c ob q hx
    exact b.there c o' e1 hx
  tups := fun c xs q => b.tups c xs (a.tups c xs q)
  frzs := fun c ob xs q => b.frzs c ob xs (a.frzs c ob xs q)
  tbls := fun c ps q => by
    obtain ⟨m1, e1⟩ := a.tbls c ps q
    obtain ⟨m2, e2⟩ := b.tbls c _ e1
    exact ⟨m1 ++ m2, by rw [e2, Array.append_assoc]⟩
theorem Un.kept (k : ∀ b u, h.get? b = some u → h'.get? b = some u) : Un fs ex H H h h' :=
  ⟨fun b ob q _ _ _ => k b ob q, fun b ob q _ _ _ => ⟨ob.slots, k b ob q⟩, fun _ _ _ n _ => n, fun b ob q _ => ⟨ob, k b ob q⟩, fun _ _ q => q, fun _ _ _ q => q, fun _ ps q => ⟨#[], by rw [q]; simp⟩⟩
theorem Un.refl : Un fs ex H H h h := Un.kept fun _ _ q => q
theorem Un.laid (k : ∀ b u, h.get? b = some u → h'.get? b = some u) (hp : h.objs.size ≤ a) (hn : H a = none) : Un fs ex H (upd H a o) h h' where
  keep := fun b u q _ _ _ => k b u q
  slot := fun b u q _ _ _ => ⟨u.slots, k b u q⟩
  free := fun b u q n _ => by rw [upd_ne (Nat.ne_of_lt (Nat.lt_of_lt_of_le (Heap.lt_size q) hp))]; exact n
  there := fun b u q _ => ⟨u, k b u q⟩
  tups := fun b xs q => by rw [upd_ne (ne_of_none q hn)]; exact q
  frzs := fun b u xs q => by rw [upd_ne (ne_of_none q hn)]; exact q
  tbls := fun b ps q => ⟨#[], by rw [upd_ne (ne_of_none q hn), q]; simp⟩
theorem Un.write (mu : Mut (H x)) (he : e = x ∨ H e = some (.own x)) (k : ∀ b u, b ≠ e → h.get? b = some u → h'.get? b = some u) (heo : ∃ u, h'.get? e = some u) : Un fs ex H (upd H x o) h h' := by
  have hx : ∀ b, H b = none → b ≠ x := fun b n z => by subst z; rw [n] at mu; exact mu
  have hb : ∀ b, H b = none → b ≠ e := fun b n z => by
    subst z
    rcases he with r | r
    · exact hx b n r
    · rw [n] at r; cases r
  have hm : ∀ b u, H b = some u → ¬ Mut (some u) → b ≠ x := fun b u q nm z => by subst z; rw [q] at mu; exact nm mu
  refine ⟨fun b u q n _ _ => k b u (hb b n) q, fun b u q n _ _ => ⟨u.slots, k b u (hb b n) q⟩, fun b u q n _ => by rw [upd_ne (hx b n)]; exact n, fun b u q _ => ?_,
    fun b xs q => by rw [upd_ne (hm b _ q fun z => z)]; exact q, fun b u xs q => by rw [upd_ne (hm b _ q fun z => z)]; exact q, fun b ps q => ⟨#[], by rw [upd_ne (hm b _ q fun z => z), q]; simp⟩⟩
  by_cases hbe : b = e
  · subst hbe; exact heo
  · exact ⟨u, k b u hbe q⟩
theorem Un.mono (u : Un fs ex H H1 h h1) (hs : ∀ b ∈ fs, b ∈ fs') (hx : ∀ b ∈ ex, b ∈ ex') : Un fs' ex' H H1 h h1 :=
  ⟨fun b ob q n hb he => u.keep b ob q n (fun z => hb (hs b z)) fun z => he (hx b z), fun _ _ q n _ he => u.any q n fun z => he (hx _ z), fun b ob q n he => u.free b ob q n fun z => he (hx b z), fun b ob q he => u.there b ob q fun z => he (hx b z), u.tups, u.frzs, u.tbls⟩
end

/-! ### the heap without what is tracked -/
def trk (h : Heap) (H : Hp) : List Addr := (List.range h.objs.size).filter fun a => (H a).isSome
def hidT (h : Heap) (H : Hp) : Heap := PySem.W.hideAll h (trk h H)
theorem hidT_size (h : Heap) (H : Hp) : (hidT h H).objs.size = h.objs.size := PySem.W.hideAll_size _ _
theorem hidT_get {h : Heap} {H : Hp} {b : Addr} {o : Obj} (e : h.get? b = some o) (n : H b = none) : (hidT h H).get? b = some o :=
  PySem.W.hideAll_get _ e fun hm => by
    have q : (H b).isSome = true := (List.mem_filter.mp hm).2
    rw [n] at q; simp at q
theorem of_hidT {h : Heap} {H : Hp} {b : Addr} {o : Obj} (e : (hidT h H).get? b = some o) : h.get? b = some o ∧ H b = none := by
  have e' : h.get? b = some o := PySem.W.of_hideAll (trk h H) e
  refine ⟨e', ?_⟩
  cases q : H b with
  | none => rfl
  | some x =>
    have hm : b ∈ trk h H := List.mem_filter.mpr ⟨List.mem_range.mpr (Heap.lt_size e'), by simp [q]⟩
    have z : (hidT h H).get? b = none := PySem.W.hideAll_none (trk h H) hm
    rw [z] at e; cases e

/-! ### OpenK's ledger, filled with every new object but one -/
def allNews (g h : Heap) (L : Addr) : List (Addr × Obj) := (List.range h.objs.size).filterMap fun a => if a = L ∨ (g.get? a).isSome = true then none else (h.get? a).map fun o => (a, o)
def rest (g h : Heap) (L d : Addr) : List (Addr × Obj) := (allNews g h L).filter fun p => decide (p.1 ≠ d)
end L2

namespace L2
open PySem PySem.Spec PyProof.Rows

/-- the module's facts, over the base: the heap at the law's entry without what is tracked there -/
structure Mod (K : PySem.W.Frag) (mg : Str → Option Value) (base : Heap) : Prop where
  kin : K.In base
  glob : base.Ns mainGlobals mg
  blt : ∃ mb, base.Ns builtinsNs mb ∧ ∀ x : Str, x ≠ "__name__" → mb x = bootBuiltins x
  nolimit : base.NoLimit

/-- the context: a def's body (or a comprehension's block) running. base: fixed through the whole law; s₀, H₀: the entry; outer: the frames whose slots others may change (a def's callers); stack: all frames that run;
   ex: iterators that were made ahead of the entry and are walked here (a comprehension's); fn: the names whose cells were made at the entry (a def: all; a comprehension's block: its own); calm: not within an except suite; pn: pins that every state bears; xe: what is wanted of an exception that leaves the code -/
structure Cx where
  prog : Program
  w : World
  K : PySem.W.Frag
  mg : Str → Option Value
  base : Heap
  A : Around
  N : List Str
  s₀ : Shared
  H₀ : Hp
  env : Env
  outer : List Env
  stack : List Env
  ex : List Addr
  fn : Str → Bool
  calm : Bool
  pn : List (Addr × Obj)
  xe : Value → Shared → Prop
/-- the callers' frames -/
def frs (l : List Env) : List Addr := l.filterMap (·.frame)
abbrev Cx.fs (X : Cx) : List Addr := frs X.outer

def Vis (sc : Scope) (x : Str) : Prop := sc.names.lookup x = some .local ∨ sc.names.lookup x = some .cell ∨ sc.names.lookup x = some .free
def Loc (sc : Scope) (x : Str) : Prop := sc.names.lookup x = some .local ∨ sc.names.lookup x = some .cell
def Look (env : Env) (h : Heap) (m : Str → Option Value) (x : Str) (u : Value) : Prop :=
  (env.kindOf x = some .local ∧ m x = some u) ∨ ((env.kindOf x = some .cell ∨ env.kindOf x = some .free) ∧ ∃ c, env.cells.lookup x = some c ∧ h.IsCell c (some u))

structure Cx.Ok (X : Cx) : Prop where
  mod : Mod X.K X.mg X.base
  kind : X.env.scope.kind = .function
  glob : X.env.globals = mainGlobals
  blt : X.env.builtins = builtinsNs
  above : X.s₀.heap.objs.size ≤ X.env.locals
  inj : ∀ x y c, X.env.cells.lookup x = some c → X.env.cells.lookup y = some c → x = y
  has : ∀ x, (X.env.kindOf x = some .cell ∨ X.env.kindOf x = some .free) → ∃ c, X.env.cells.lookup x = some c
  cab : ∀ x c, X.fn x = true → X.env.cells.lookup x = some c → X.s₀.heap.objs.size ≤ c
  hd : X.calm = true → X.A.handled = none
  frames : X.A.frames = some X.stack
  stk : X.stack = X.outer ∨ (X.stack = X.env :: X.outer ∧ X.env.frame = some X.env.locals)
  exf : ∀ b ∈ X.ex, b ≠ X.env.locals ∧ ∀ x c, X.env.cells.lookup x = some c → c ≠ b
  bs : ∀ b o, X.base.get? b = some o → X.s₀.heap.get? b = some o ∧ X.H₀ b = none
  bsz : X.base.objs.size ≤ X.s₀.heap.objs.size
  noex : ∀ b o, X.base.get? b = some o → b ∉ X.ex
  exfs : ∀ b ∈ X.ex, b ∉ X.fs
  funs : X.s₀.heap.FunFrames X.base X.outer
  frf : ∀ b ∈ X.fs, X.H₀ b = none

structure Inv (X : Cx) (pins : List (Addr × Obj)) (σ : List (Option V)) (H : Hp) (s : Shared) : Prop where
  ok : X.Ok
  os : s.os = X.s₀.os
  bare : AllBare s.gens
  base : Un X.fs X.ex X.H₀ H X.s₀.heap s.heap
  loc : ∃ m, s.heap.Ns X.env.locals m ∧ ∀ (i : Nat) (x : Str) (v : V), X.N[i]? = some x → σ[i]? = some (some v) → Vis X.env.scope x → ∃ u, RelV v u ∧ Look X.env s.heap m x u
  cell : ∀ x c, X.env.cells.lookup x = some c → ∃ v, s.heap.IsCell c v
  free : H X.env.locals = none
  freeC : ∀ x c, X.env.cells.lookup x = some c → H c = none
  pin : ∀ p ∈ X.pn ++ pins, s.heap.get? p.1 = some p.2 ∧ H p.1 = none ∧ p.1 ≠ X.env.locals ∧ p.1 ∉ X.fs ∧ ∀ v, p.2.data ≠ .cell v
  hok : HOk X.prog X.w H s.heap
  len : σ.length = X.N.length

section
variable {X : Cx} {pins : List (Addr × Obj)} {σ : List (Option V)} {H H' : Hp} {s : Shared} {h' : Heap}

theorem Cx.Ok.nofr (ok : X.Ok) {b : Addr} {o : Obj} (e : X.base.get? b = some o) : b ∉ X.fs := fun hb => by
  have := (ok.funs.mem hb).1
  rw [e] at this; cases this
theorem Inv.bs (I : Inv X pins σ H s) : ∀ b o, X.base.get? b = some o → s.heap.get? b = some o ∧ H b = none := fun b o e =>
  ⟨I.base.keep b o (I.ok.bs b o e).1 (I.ok.bs b o e).2 (I.ok.nofr e) (I.ok.noex b o e), I.base.free b o (I.ok.bs b o e).1 (I.ok.bs b o e).2 (I.ok.noex b o e)⟩
theorem Inv.bk (I : Inv X pins σ H s) : ∀ b o, X.base.get? b = some o → s.heap.get? b = some o := fun b o e => (I.bs b o e).1
theorem Inv.mod (I : Inv X pins σ H s) : Mod X.K X.mg X.base := I.ok.mod
theorem Inv.kIn (I : Inv X pins σ H s) : X.K.In s.heap := I.ok.mod.kin.keeps I.bk
theorem Inv.nolimit (I : Inv X pins σ H s) : s.heap.NoLimit := I.ok.mod.nolimit.keeps I.bk
/-- the frame over the base: for OpenK's rules (K.In X.base is I.mod.kin) -/
theorem Inv.fr (I : Inv X pins σ H s) : ∃ m, Fr X.base X.env.locals s.heap m :=
  let ⟨m, hn, _⟩ := I.loc
  ⟨m, hn, I.bk, Nat.le_trans I.ok.bsz I.ok.above⟩
theorem Inv.lt (I : Inv X pins σ H s) : X.env.locals < s.heap.objs.size := let ⟨_, hn, _⟩ := I.loc; hn.lt
theorem Inv.sz (I : Inv X pins σ H s) : X.s₀.heap.objs.size ≤ s.heap.objs.size := Nat.le_trans I.ok.above (Nat.le_of_lt I.lt)
theorem Inv.nofs (I : Inv X pins σ H s) {a : Addr} (h : s.heap.objs.size ≤ a) : a ∉ X.fs := fun hb => by
  obtain ⟨_, o, ho, _⟩ := I.ok.funs.mem hb
  exact absurd (Nat.lt_of_lt_of_le (Heap.lt_size ho) (Nat.le_trans I.sz h)) (Nat.lt_irrefl _)
theorem Inv.cne (I : Inv X pins σ H s) : ∀ x c, X.env.cells.lookup x = some c → c ≠ X.env.locals := fun x c e z => by
  obtain ⟨v, o, ho, hd⟩ := I.cell x c e
  obtain ⟨m, ⟨o', es, ep, ho', hd', _⟩, _⟩ := I.loc
  rw [z, ho'] at ho; cases ho; rw [hd'] at hd; cases hd
theorem Inv.funs (I : Inv X pins σ H s) : s.heap.FunFrames X.base X.outer := by
  have all : ∀ (l : List Env), (∀ b ∈ frs l, b ∈ X.fs) → X.s₀.heap.FunFrames X.base l → s.heap.FunFrames X.base l := by
    intro l
    induction l with
    | nil => intro _ _; trivial
    | cons env r ih =>
      intro hs hl
      obtain ⟨hk, ⟨L, o, hf, hn, ho, hd⟩, hr⟩ := hl
      have hL : L ∈ X.fs := hs L (by unfold frs; rw [List.filterMap_cons, hf]; exact List.mem_cons_self)
      obtain ⟨sl, e⟩ := I.base.slot L o ho (I.ok.frf L hL) hL fun z => I.ok.exfs L z hL
      exact ⟨hk, ⟨L, _, hf, hn, e, hd⟩, ih (fun b hb => hs b (by unfold frs; rw [List.filterMap_cons, hf]; exact List.mem_cons_of_mem _ hb)) hr⟩
  exact all X.outer (fun _ hb => hb) I.ok.funs

/-- the frames that run, for a call -/
theorem Inv.stack (I : Inv X pins σ H s) : s.heap.FunFrames X.base X.stack := by
  rcases I.ok.stk with e | ⟨e, hf⟩
  · rw [e]; exact I.funs
  · rw [e]
    obtain ⟨m, hn, _⟩ := I.loc
    refine .cons (by rw [I.ok.kind]; decide) hf hn ?_ I.funs
    exact Heap.get?_none_of_le (Nat.le_trans I.ok.bsz I.ok.above)
theorem Inv.stkSub (I : Inv X pins σ H s) : ∀ b ∈ frs X.stack, b ∈ X.env.locals :: X.fs := fun b hb => by
  rcases I.ok.stk with e | ⟨e, hf⟩
  · rw [e] at hb; exact List.mem_cons_of_mem _ hb
  · rw [e] at hb
    unfold frs at hb
    rw [List.filterMap_cons, hf] at hb
    exact hb
theorem Inv.stkFree (I : Inv X pins σ H s) : ∀ b ∈ frs X.stack, H b = none := fun b hb => by
  rcases List.mem_cons.mp (I.stkSub b hb) with e | hb
  · rw [e]; exact I.free
  · obtain ⟨_, o, ho, _⟩ := I.ok.funs.mem hb
    exact I.base.free b o ho (I.ok.frf b hb) fun z => I.ok.exfs b z hb

/-- THE STEP: the untracked objects but the frame and the records at ch are kept (the callers' frames up to slots), the frame's map is kept, the new abstract heap is held -/
theorem Inv.step {g' : Array GenState} {t' : Nat} {d' : Drawn} {ch : List Addr} (I : Inv X pins σ H s)
    (hch : ∀ b ∈ ch, (b ∈ X.ex ∨ X.s₀.heap.objs.size ≤ b) ∧ b ≠ X.env.locals ∧ (∀ x c, X.env.cells.lookup x = some c → c ≠ b) ∧ ∀ p ∈ X.pn ++ pins, p.1 ≠ b)
    (keep : ∀ b o, b ≠ X.env.locals → b ∉ X.fs → b ∉ ch → s.heap.get? b = some o → H b = none → h'.get? b = some o)
    (slot : ∀ b o, b ≠ X.env.locals → b ∈ X.fs → b ∉ ch → s.heap.get? b = some o → H b = none → ∃ sl, h'.get? b = some { o with slots := sl }) (free : ∀ b o, b ∉ ch → s.heap.get? b = some o → H b = none → H' b = none)
    (there : ∀ b o, b ∉ ch → s.heap.get? b = some o → ∃ o', h'.get? b = some o')
    (tups : ∀ b xs, H b = some (.tup xs) → H' b = some (.tup xs)) (frzs : ∀ b o u, H b = some (.frz o u) → H' b = some (.frz o u)) (tbls : ∀ b ps, H b = some (.tbl ps) → ∃ more, H' b = some (.tbl (ps ++ more)))
    (ns : ∀ m, s.heap.Ns X.env.locals m → h'.Ns X.env.locals m) (hok : HOk X.prog X.w H' h') (hg : AllBare g') :
    Inv X pins σ H' { s with heap := h', gens := g', drawn := d', toks := t' } := by
  have neL : ∀ b o, X.s₀.heap.get? b = some o → b ≠ X.env.locals := fun b o e => Nat.ne_of_lt (Nat.lt_of_lt_of_le (Heap.lt_size e) I.ok.above)
  have neC : ∀ b o, X.s₀.heap.get? b = some o → b ∉ X.ex → b ∉ ch := fun b o e hx hb => by
    rcases (hch b hb).1 with z | z
    · exact hx z
    · exact absurd (Nat.lt_of_lt_of_le (Heap.lt_size e) z) (Nat.lt_irrefl _)
  have cellK : ∀ x c, X.env.cells.lookup x = some c → ∀ v, s.heap.IsCell c v → h'.IsCell c v := fun x c e v ⟨o, ho, hd⟩ => by
    have nch : c ∉ ch := fun z => (hch c z).2.2.1 x c e rfl
    by_cases hc : c ∈ X.fs
    · obtain ⟨sl, q⟩ := slot c o (I.cne x c e) hc nch ho (I.freeC x c e)
      exact ⟨_, q, hd⟩
    · exact ⟨o, keep c o (I.cne x c e) hc nch ho (I.freeC x c e), hd⟩
  refine ⟨I.ok, I.os, hg, ⟨fun b o e n hb hx => ?_, fun b o e n hb hx => ?_, fun b o e n hx => ?_, fun b o e hx => ?_, fun b xs e => tups b xs (I.base.tups b xs e), fun b o xs e => frzs b o xs (I.base.frzs b o xs e), fun b ps e => ?_⟩, ?_, fun x c e => ?_, ?_, fun x c e => ?_, fun p hp => ?_, hok, I.len⟩
  · exact keep b o (neL b o e) hb (neC b o e hx) (I.base.keep b o e n hb hx) (I.base.free b o e n hx)
  · obtain ⟨sl, e1⟩ := I.base.slot b o e n hb hx
    obtain ⟨sl', e2⟩ := slot b _ (neL b o e) hb (neC b o e hx) e1 (I.base.free b o e n hx)
    exact ⟨sl', e2⟩
  · obtain ⟨o', e1⟩ := I.base.there b o e hx
    exact free b o' (neC b o e hx) e1 (I.base.free b o e n hx)
  · obtain ⟨o', e1⟩ := I.base.there b o e hx
    exact there b o' (neC b o e hx) e1
  · obtain ⟨m1, e1⟩ := I.base.tbls b ps e
    obtain ⟨m2, e2⟩ := tbls b _ e1
    exact ⟨m1 ++ m2, by rw [e2, Array.append_assoc]⟩
  · obtain ⟨m, hn, hl⟩ := I.loc
    refine ⟨m, ns m hn, fun i x v e1 e2 e3 => ?_⟩
    obtain ⟨u, r, l⟩ := hl i x v e1 e2 e3
    refine ⟨u, r, ?_⟩
    rcases l with l | ⟨k, c, e, z⟩
    · exact .inl l
    · exact .inr ⟨k, c, e, cellK x c e _ z⟩
  · obtain ⟨v, z⟩ := I.cell x c e
    exact ⟨v, cellK x c e v z⟩
  · obtain ⟨m, ⟨o, _, _, ho, _⟩, _⟩ := I.loc
    exact free _ o (fun z => (hch _ z).2.1 rfl) ho I.free
  · obtain ⟨v, o, ho, hd⟩ := I.cell x c e
    exact free c o (fun z => (hch c z).2.2.1 x c e rfl) ho (I.freeC x c e)
  · obtain ⟨e, n, ne, nf, d⟩ := I.pin p hp
    have nch : p.1 ∉ ch := fun z => (hch p.1 z).2.2.2 p hp rfl
    exact ⟨keep p.1 p.2 ne nf nch e n, free p.1 p.2 nch e n, ne, nf, d⟩
/-- .. where the frame's own object is kept too -/
theorem Inv.un {t' : Nat} (I : Inv X pins σ H s) (u : Un X.fs [] H H' s.heap h') (hok : HOk X.prog X.w H' h') : Inv X pins σ H' { s with heap := h', toks := t' } := by
  obtain ⟨m, ⟨o, es, ep, ho, r⟩, _⟩ := id I.loc
  obtain ⟨sl, hL⟩ := u.any ho I.free (by simp)
  exact I.step (g' := s.gens) (d' := s.drawn) (ch := []) (fun _ z => nomatch z) (fun b o _ hb _ e n => u.keep b o e n hb (by simp)) (fun b o _ hb _ e n => u.slot b o e n hb (by simp)) (fun b o _ e n => u.free b o e n (by simp)) (fun b o _ e => u.there b o e (by simp)) u.tups u.frzs u.tbls (fun m' hm => by
    obtain ⟨o', es', ep', ho', r'⟩ := hm
    rw [ho] at ho'; cases ho'
    exact ⟨_, es', ep', hL, r'⟩) hok I.bare
/-- behind a call (or a comprehension's block): the slots of this frame may have changed too, the records at ch may have turned -/
theorem Inv.call {g' : Array GenState} {t' : Nat} {d' : Drawn} {ch : List Addr} (I : Inv X pins σ H s) (u : Un (frs X.stack) ch H H' s.heap h') (hok : HOk X.prog X.w H' h') (hg : AllBare g')
    (hch : ∀ b ∈ ch, (b ∈ X.ex ∨ X.s₀.heap.objs.size ≤ b) ∧ b ≠ X.env.locals ∧ (∀ x c, X.env.cells.lookup x = some c → c ≠ b) ∧ ∀ p ∈ X.pn ++ pins, p.1 ≠ b) :
    Inv X pins σ H' { s with heap := h', gens := g', drawn := d', toks := t' } := by
  obtain ⟨m, ⟨o, es, ep, ho, r⟩, _⟩ := id I.loc
  obtain ⟨sl, hL⟩ := u.any ho I.free fun z => (hch _ z).2.1 rfl
  exact I.step (ch := ch) hch (fun b o hL hb hc e n => u.keep b o e n (fun z => (List.mem_cons.mp (I.stkSub b z)).elim hL hb) hc) (fun b o _ _ hc e n => u.any e n hc) (fun b o hc e n => u.free b o e n hc) (fun b o hc e => u.there b o e hc) u.tups u.frzs u.tbls (fun m' hm => by
    obtain ⟨o', es', ep', ho', r'⟩ := hm
    rw [ho] at ho'; cases ho'
    exact ⟨_, es', ep', hL, r'⟩) hok hg
/-- an untracked record of ours (an iterator) has turned -/
theorem Inv.turned {t' : Nat} {it : Addr} (I : Inv X pins σ H s) (k : ∀ b o, b ≠ it → s.heap.get? b = some o → h'.get? b = some o) (hn : H it = none) (hL : it ≠ X.env.locals)
    (h1 : it ∈ X.ex ∨ X.s₀.heap.objs.size ≤ it) (h2 : ∀ x c, X.env.cells.lookup x = some c → c ≠ it) (h3 : ∀ p ∈ X.pn ++ pins, p.1 ≠ it) : Inv X pins σ H { s with heap := h', toks := t' } := by
  have nit : ∀ b u, H b = some u → b ≠ it := fun b u e z => by rw [z, hn] at e; cases e
  refine I.step (g' := s.gens) (d' := s.drawn) (ch := [it]) (fun b hb => ?_) (fun b o _ _ hc e _ => k b o (fun z => hc (by simp [z])) e) (fun b o _ _ hc e _ => ⟨o.slots, k b o (fun z => hc (by simp [z])) e⟩) (fun _ _ _ _ n => n)
    (fun b o hc e => ⟨o, k b o (fun z => hc (by simp [z])) e⟩) (fun _ _ e => e) (fun _ _ _ e => e) (fun b ps e => ⟨#[], by rw [e]; simp⟩) (fun m hm => ?_) (fun b u e => ?_) I.bare
  · have e : b = it := by simpa using hb
    subst e
    exact ⟨h1, hL, h2, h3⟩
  · obtain ⟨o, es, ep, ho, r⟩ := hm
    exact ⟨o, es, ep, k _ o (Ne.symm hL) ho, r⟩
  · refine (I.hok b u e).stay (fun c v hc q => k c v ?_ q) (fun _ q => q) fun _ _ q => q
    rcases hc with z | z
    · rw [z]; exact nit b u e
    · exact nit c _ z
theorem Inv.tok (I : Inv X pins σ H s) (t : Nat) : Inv X pins σ H { s with toks := t } := I.un (h' := s.heap) (t' := t) Un.refl I.hok
/-- all objects kept -/
theorem Inv.kept {t' : Nat} (I : Inv X pins σ H s) (k : ∀ b u, s.heap.get? b = some u → h'.get? b = some u) : Inv X pins σ H { s with heap := h', toks := t' } := I.un (Un.kept k) (I.hok.kept k)
/-- a new object laid and tracked -/
theorem Inv.laid {a : Addr} {o : HO} {t' : Nat} (I : Inv X pins σ H s) (k : ∀ b u, s.heap.get? b = some u → h'.get? b = some u) (hp : s.heap.objs.size ≤ a) (new : ObjOk X.prog X.w (upd H a o) h' a o) :
    Inv X pins σ (upd H a o) { s with heap := h', toks := t' } := I.un (Un.laid k hp (I.hok.fresh hp)) (I.hok.laid k hp new)
/-- an object written -/
theorem Inv.write {x e : Addr} {o : HO} {t' : Nat} (I : Inv X pins σ H s) (mu : Mut (H x)) (he : e = x ∨ H e = some (.own x)) (k : ∀ b u, b ≠ e → s.heap.get? b = some u → h'.get? b = some u) (heo : ∃ u, h'.get? e = some u)
    (new : ObjOk X.prog X.w (upd H x o) h' x o) : Inv X pins σ (upd H x o) { s with heap := h', toks := t' } := I.un (Un.write mu he k heo) (I.hok.write mu he k heo new)
/-- forgetting slots, pins -/
theorem Inv.weak {σ' : List (Option V)} (I : Inv X pins σ H s) (hl : σ'.length = σ.length) (w : ∀ (i : Nat) v, σ'[i]? = some (some v) → σ[i]? = some (some v)) : Inv X pins σ' H s :=
  ⟨I.ok, I.os, I.bare, I.base, let ⟨m, hn, hl'⟩ := I.loc; ⟨m, hn, fun i x v e1 e2 e3 => hl' i x v e1 (w i v e2) e3⟩, I.cell, I.free, I.freeC, I.pin, I.hok, hl.trans I.len⟩
theorem Inv.pins_of {pins' : List (Addr × Obj)} (I : Inv X pins σ H s) (h : ∀ p ∈ pins', s.heap.get? p.1 = some p.2 ∧ H p.1 = none ∧ p.1 ≠ X.env.locals ∧ p.1 ∉ X.fs ∧ ∀ v, p.2.data ≠ .cell v) : Inv X pins' σ H s :=
  ⟨I.ok, I.os, I.bare, I.base, I.loc, I.cell, I.free, I.freeC, fun p hp => (List.mem_append.mp hp).elim (fun z => I.pin p (List.mem_append_left _ z)) (h p), I.hok, I.len⟩

theorem nodup_ix {N : List Str} (hN : N.Nodup) {i j : Nat} {x : Str} (a : N[i]? = some x) (b : N[j]? = some x) : i = j := by
  obtain ⟨h1, e1⟩ := List.getElem?_eq_some_iff.mp a
  obtain ⟨h2, e2⟩ := List.getElem?_eq_some_iff.mp b
  exact (List.getElem_inj hN).mp (e1.trans e2.symm)

/-- a name is stored; what changed -/
theorem store_ok2 {M : Model} {A : Around} {E : Value → Shared → Prop} {i : Nat} {x : Str} {v : V} {u : Value} {Q : Unit → Shared → Prop} (I : Inv X pins σ H s) (hN : X.N.Nodup) (hi : X.N[i]? = some x) (hx : Loc X.env.scope x) (r : RelV v u)
    (h : ∀ s', Inv X pins (σ.set i (some v)) H s' → (∃ a, Heap.SameBut a s.heap s'.heap ∧ (a = X.env.locals ∨ X.env.cells.lookup x = some a)) → Q () s') (hf : X.fn x = true ∨ X.env.scope.names.lookup x = some .local := by first | exact .inl rfl | exact .inr rfl | assumption) : wpAny M A (storeName X.env x u) Q E s := by
  obtain ⟨m, hn, hl⟩ := id I.loc
  have hcls : (X.env.scope.kind == .class || (X.env.scope.kind == .module && X.env.locals != X.env.globals)) = false := by rw [I.ok.kind]; rfl
  have hiσ : i < σ.length := by rw [I.len]; exact (List.getElem?_eq_some_iff.mp hi).1
  have cne := I.cne
  have tracked : ∀ {a : Addr} {h' : Heap}, (∃ o, s.heap.get? a = some o ∧ H a = none) → Heap.SameBut a s.heap h' → HOk X.prog X.w H h' := fun {a h'} ha hs b ob e => by
    obtain ⟨_, _, hfree⟩ := ha
    refine (I.hok b ob e).stay (fun c w' hc q => (hs.2 c ?_).trans q) (fun _ q => q) fun _ _ q => q
    rintro rfl
    rcases hc with rfl | hc
    · rw [hfree] at e; cases e
    · rw [hfree] at hc; cases hc
  rcases hx with hk | hk
  · refine wpAny_storeName_local hk hn (fun h' hn' hs => ?_) hcls
    obtain ⟨oL, _, _, hoL, _⟩ := id hn
    refine h _ ⟨I.ok, I.os, I.bare, ⟨fun b o e n hb hx => ?_, fun b o e n hb hx => ?_, I.base.free, fun b o e hx => ?_, I.base.tups, I.base.frzs, I.base.tbls⟩, ⟨_, hn', fun j y v' e1 e2 e3 => ?_⟩, fun y c e => ?_, I.free, I.freeC, fun p hp => ?_, tracked ⟨oL, hoL, I.free⟩ hs, by simpa using I.len⟩ ⟨_, hs, .inl rfl⟩
    · exact (hs.2 b (Nat.ne_of_lt (Nat.lt_of_lt_of_le (Heap.lt_size e) I.ok.above))).trans (I.base.keep b o e n hb hx)
    · obtain ⟨sl, e1⟩ := I.base.slot b o e n hb hx
      exact ⟨sl, (hs.2 b (Nat.ne_of_lt (Nat.lt_of_lt_of_le (Heap.lt_size e) I.ok.above))).trans e1⟩
    · obtain ⟨o', e1⟩ := I.base.there b o e hx
      exact ⟨o', (hs.2 b (Nat.ne_of_lt (Nat.lt_of_lt_of_le (Heap.lt_size e) I.ok.above))).trans e1⟩
    · by_cases hj : j = i
      · subst hj
        rw [hi] at e1; cases e1
        rw [List.getElem?_set_self hiσ] at e2
        cases e2
        exact ⟨u, r, .inl ⟨hk, by simp⟩⟩
      · rw [List.getElem?_set_ne (Ne.symm hj)] at e2
        obtain ⟨u', r', q⟩ := hl j y v' e1 e2 e3
        refine ⟨u', r', ?_⟩
        rcases q with ⟨k, e⟩ | ⟨k, c, e, z⟩
        · refine .inl ⟨k, ?_⟩
          have : y ≠ x := fun e => hj (nodup_ix hN e1 (e ▸ hi))
          simp [this, e]
        · exact .inr ⟨k, c, e, z.sameBut hs (cne y c e)⟩
    · obtain ⟨w', z⟩ := I.cell y c e
      exact ⟨w', z.sameBut hs (cne y c e)⟩
    · obtain ⟨e, n, ne, nf, d⟩ := I.pin p hp
      exact ⟨(hs.2 p.1 ne).trans e, n, ne, nf, d⟩
  · have hfn : X.fn x = true := by
      rcases hf with z | z
      · exact z
      · rw [z] at hk; cases hk
    obtain ⟨c, hc⟩ := I.ok.has x (.inl hk)
    obtain ⟨w', z⟩ := I.cell x c hc
    refine wpAny_storeName_cell I.ok.kind hk hc z (fun h' hc' hs => ?_)
    obtain ⟨oc, hoc, hocd⟩ := id z
    refine h { s with heap := h' } ⟨I.ok, I.os, I.bare, ⟨fun b o e n hb hx => ?_, fun b o e n hb hx => ?_, I.base.free, fun b o e hx => ?_, I.base.tups, I.base.frzs, I.base.tbls⟩, ⟨m, hn.sameBut hs (Ne.symm (cne x c hc)), fun j y v' e1 e2 e3 => ?_⟩, fun y c' e => ?_, I.free, I.freeC, fun p hp => ?_, tracked ⟨oc, hoc, I.freeC x c hc⟩ hs, by simpa using I.len⟩ ⟨c, hs, .inr hc⟩
    · exact (hs.2 b (Nat.ne_of_lt (Nat.lt_of_lt_of_le (Heap.lt_size e) (I.ok.cab x c hfn hc)))).trans (I.base.keep b o e n hb hx)
    · obtain ⟨sl, e1⟩ := I.base.slot b o e n hb hx
      exact ⟨sl, (hs.2 b (Nat.ne_of_lt (Nat.lt_of_lt_of_le (Heap.lt_size e) (I.ok.cab x c hfn hc)))).trans e1⟩
    · obtain ⟨o', e1⟩ := I.base.there b o e hx
      exact ⟨o', (hs.2 b (Nat.ne_of_lt (Nat.lt_of_lt_of_le (Heap.lt_size e) (I.ok.cab x c hfn hc)))).trans e1⟩
    · by_cases hj : j = i
      · subst hj
        rw [hi] at e1; cases e1
        rw [List.getElem?_set_self hiσ] at e2
        cases e2
        exact ⟨u, r, .inr ⟨.inl hk, c, hc, hc'⟩⟩
      · rw [List.getElem?_set_ne (Ne.symm hj)] at e2
        obtain ⟨u', r', q⟩ := hl j y v' e1 e2 e3
        refine ⟨u', r', ?_⟩
        rcases q with q | ⟨k, c', e, z'⟩
        · exact .inl q
        · refine .inr ⟨k, c', e, z'.sameBut hs ?_⟩
          rintro rfl
          exact hj (nodup_ix hN e1 (I.ok.inj _ _ _ e hc ▸ hi))
    · by_cases hcc : c' = c
      · subst hcc; exact ⟨_, hc'⟩
      · obtain ⟨w2, z2⟩ := I.cell y c' e
        exact ⟨w2, z2.sameBut hs hcc⟩
    · obtain ⟨e, n, ne, nf, d⟩ := I.pin p hp
      refine ⟨(hs.2 p.1 ?_).trans e, n, ne, nf, d⟩
      intro q
      rw [q, hoc] at e
      have q' : oc = p.2 := Option.some.inj e
      exact d w' (by rw [← q']; exact hocd)
theorem store_ok {M : Model} {A : Around} {E : Value → Shared → Prop} {i : Nat} {x : Str} {v : V} {u : Value} {Q : Unit → Shared → Prop} (I : Inv X pins σ H s) (hN : X.N.Nodup) (hi : X.N[i]? = some x) (hx : Loc X.env.scope x) (r : RelV v u)
    (h : ∀ s', Inv X pins (σ.set i (some v)) H s' → Q () s') (hf : X.fn x = true ∨ X.env.scope.names.lookup x = some .local := by first | exact .inl rfl | exact .inr rfl | assumption) : wpAny M A (storeName X.env x u) Q E s :=
  store_ok2 I hN hi hx r (fun s' I' _ => h s' I') hf
/-- behind a call or a block, the state as it is -/
theorem Inv.call' {s' : Shared} {ch : List Addr} (I : Inv X pins σ H s) (ho : s'.os = s.os) (u : Un (frs X.stack) ch H H' s.heap s'.heap) (hok : HOk X.prog X.w H' s'.heap) (hg : AllBare s'.gens)
    (hch : ∀ b ∈ ch, (b ∈ X.ex ∨ X.s₀.heap.objs.size ≤ b) ∧ b ≠ X.env.locals ∧ (∀ x c, X.env.cells.lookup x = some c → c ≠ b) ∧ ∀ p ∈ X.pn ++ pins, p.1 ≠ b) : Inv X pins σ H' s' := by
  obtain ⟨h', g', d', t', o'⟩ := s'
  have e : o' = s.os := ho
  subst e
  exact I.call (g' := g') (t' := t') (d' := d') u hok hg hch
end

/-! ### the judgements -/
/-- an exception: its class, its own dict's address (where it has one), the abstract heap behind it -/
abbrev XK := Value → Option Addr → Hp → Prop
abbrev St := List (Option V)
abbrev VK := V → Hp → Prop
/-- an expression's reading; a test's; an argument list's -/
abbrev TE := St → Hp → VK → Prop
abbrev TT := St → Hp → (Bool → Hp → Prop) → Prop
abbrev TA := St → Hp → (List V → Hp → Prop) → Prop
/-- what is wanted behind a statement -/
structure Ends where
  nx : St → Hp → Prop
  rt : VK
  bk : St → Hp → Prop := fun _ _ => False
  ct : St → Hp → Prop := fun _ _ => False
abbrev TS := Ends → St → Hp → Prop

def EP (X : Cx) (pins : List (Addr × Obj)) (σ : St) (Q : VK) (u : Value) (s' : Shared) : Prop := ∃ v H', Inv X pins σ H' s' ∧ RelV v u ∧ Q v H'
def TP (X : Cx) (pins : List (Addr × Obj)) (σ : St) (Q : Bool → Hp → Prop) (b : Bool) (s' : Shared) : Prop := ∃ H', Inv X pins σ H' s' ∧ Q b H'
def AP (X : Cx) (pins : List (Addr × Obj)) (σ : St) (Q : List V → Hp → Prop) (us : List Value) (s' : Shared) : Prop := ∃ vs H', Inv X pins σ H' s' ∧ Vals vs us ∧ Q vs H'
def SP (X : Cx) (pins : List (Addr × Obj)) (D : Ends) (f : Flow) (s' : Shared) : Prop :=
  match f with
  | .next => ∃ σ' H', Inv X pins σ' H' s' ∧ D.nx σ' H'
  | .brk => ∃ σ' H', Inv X pins σ' H' s' ∧ D.bk σ' H'
  | .cont => ∃ σ' H', Inv X pins σ' H' s' ∧ D.ct σ' H'
  | .ret u => ∃ v σ' H', Inv X pins σ' H' s' ∧ RelV v u ∧ D.rt v H'

def PE (X : Cx) (e : Expr) (t : TE) : Prop :=
  ∀ (pins : List (Addr × Obj)) (s : Shared) (σ : St) (H : Hp) (Q : VK), Inv X pins σ H s → t σ H Q → wpAny (model X.prog X.w) X.A (eval e X.env) (EP X pins σ Q) X.xe s
def PT (X : Cx) (e : Expr) (t : TT) : Prop :=
  ∀ (pins : List (Addr × Obj)) (s : Shared) (σ : St) (H : Hp) (Q : Bool → Hp → Prop), Inv X pins σ H s → t σ H Q → wpAny (model X.prog X.w) X.A (isTrue e X.env (eval e X.env)) (TP X pins σ Q) X.xe s
/-- a test whatever its 'whole' is (and, or) -/
def PW (X : Cx) (e : Expr) (t : TT) : Prop :=
  ∀ (whole : Sem Value) (pins : List (Addr × Obj)) (s : Shared) (σ : St) (H : Hp) (Q : Bool → Hp → Prop), Inv X pins σ H s → t σ H Q → wpAny (model X.prog X.w) X.A (isTrue e X.env whole) (TP X pins σ Q) X.xe s
theorem PW.pt {X : Cx} {e : Expr} {t : TT} (h : PW X e t) : PT X e t := h _
/-- an argument list (no star), from the left -/
def PA (X : Cx) (es : List Expr) (t : TA) : Prop :=
  ∀ (pos : Pos) (pins : List (Addr × Obj)) (s : Shared) (σ : St) (H : Hp) (Q : List V → Hp → Prop), Inv X pins σ H s → t σ H Q → wpAny (model X.prog X.w) X.A (spliced (backTo pos (starEach es X.env))) (AP X pins σ Q) X.xe s
def PS (X : Cx) (st : Stmt) (t : TS) : Prop :=
  ∀ (pins : List (Addr × Obj)) (s : Shared) (σ : St) (H : Hp) (D : Ends), Inv X pins σ H s → t D σ H → wpAny (model X.prog X.w) X.A (exec st X.env) (SP X pins D) X.xe s
def PSs (X : Cx) (st : List Stmt) (t : TS) : Prop :=
  ∀ (pins : List (Addr × Obj)) (s : Shared) (σ : St) (H : Hp) (D : Ends), Inv X pins σ H s → t D σ H → wpAny (model X.prog X.w) X.A (execs st X.env) (SP X pins D) X.xe s
/-- weaken the end -/
theorem thn {α : Type} {t : Sem α} {Q Q' : α → Shared → Prop} {M : Model} {A : Around} {E : Value → Shared → Prop} {s : Shared} (h : wpAny M A t Q E s) (hQ : ∀ a s, Q a s → Q' a s) : wpAny M A t Q' E s := wpAny_mono h hQ fun _ _ x => x
end L2

namespace L2
open PySem PySem.Spec PyProof.Rows
section
variable {X : Cx}

/-! ### names and constants -/
def tVar (i : Nat) : TE := fun σ H Q => ∃ v, σ[i]? = some (some v) ∧ Q v H
def tC (v : V) : TE := fun _ H Q => Q v H
theorem pe_var {i : Nat} {x : Str} {pos : Pos} (hN : X.N[i]? = some x) (hv : Vis X.env.scope x) (hd : (x == ("__debug__" : Str)) = false := by decide) (hcd : (x == ("__classdict__" : Str)) = false := by decide) : PE X (.Name x pos) (tVar i) := by
  intro pins s σ H Q I h
  obtain ⟨v, e, h⟩ := h
  obtain ⟨m, hn, hl⟩ := I.loc
  obtain ⟨u, r, l⟩ := hl i x v hN e hv
  have fin : EP X pins σ Q u s := ⟨v, H, I, r, h⟩
  rcases l with ⟨hk, hm⟩ | ⟨hk, c, hc, hcell⟩
  · exact wpAny_Name (wpAny_loadName_local I.ok.kind hk hn hm fin) hd
  · rcases hk with hk | hk
    · exact wpAny_Name (wpAny_loadName_cell I.ok.kind hk hc hcell fin) hd
    · exact wpAny_Name (wpAny_loadName_free I.ok.kind hk hc hcell fin hcd) hd
theorem pe_int {i j pos} : PE X (.Constant (.int i) j pos) (tC (.int i)) := fun _ _ _ H _ I h => wpAny_Constant_int ⟨.int i, H, I.tok _, ⟨_, rfl⟩, h⟩
theorem pe_bl {b j pos} : PE X (.Constant (.bool b) j pos) (tC (.bl b)) := fun _ _ _ H _ I h => Constant_bool ⟨.bl b, H, I, rfl, h⟩
theorem pe_non {j pos} : PE X (.Constant .none j pos) (tC .non) := fun _ _ _ H _ I h => Constant_none ⟨.non, H, I, rfl, h⟩
/-- a global name of the def -/
def Gl (X : Cx) (x : Str) : Prop := X.env.kindOf x = some .globalImplicit
theorem ld_glob {E : Value → Shared → Prop} {pins : List (Addr × Obj)} {s : Shared} {σ : St} {H : Hp} {x : Str} {u : Value} {pos : Pos} {Q : Value → Shared → Prop} (I : Inv X pins σ H s) (hg : Gl X x) (hm : X.mg x = some u) (h : Q u s)
    (hd : (x == ("__debug__" : Str)) = false := by decide) : wpAny (model X.prog X.w) X.A (eval (.Name x pos) X.env) Q E s :=
  Calls.Name_function_global I.ok.kind hg (Calls.loadGlobal_global (by rw [I.ok.glob]; exact I.mod.glob.keeps I.bk) hm h) hd
theorem ld_blt {E : Value → Shared → Prop} {pins : List (Addr × Obj)} {s : Shared} {σ : St} {H : Hp} {x : Str} {u : Value} {pos : Pos} {Q : Value → Shared → Prop} (I : Inv X pins σ H s) (hg : Gl X x) (hm : X.mg x = none) (hv : bootBuiltins x = some u) (h : Q u s)
    (hn : x ≠ "__name__" := by decide) (hd : (x == ("__debug__" : Str)) = false := by decide) : wpAny (model X.prog X.w) X.A (eval (.Name x pos) X.env) Q E s := by
  obtain ⟨mb, h1, h2⟩ := I.mod.blt
  exact Calls.Name_function_global I.ok.kind hg (Calls.loadGlobal_builtin (by rw [I.ok.glob]; exact I.mod.glob.keeps I.bk) hm (by rw [I.ok.blt]; exact h1.keeps I.bk) ((h2 x hn).trans hv) h) hd
/-- a module's constant, a class, a function, as a value -/
theorem pe_glob {x : Str} {v : V} {u : Value} {pos : Pos} (hg : Gl X x) (hm : X.mg x = some u) (r : RelV v u) (hd : (x == ("__debug__" : Str)) = false := by decide) : PE X (.Name x pos) (tC v) :=
  fun _ _ _ H _ I h => ld_glob I hg hm ⟨v, H, I, r, h⟩ hd
theorem pe_bltn {x : Str} {v : V} {u : Value} {pos : Pos} (hg : Gl X x) (hm : X.mg x = none) (hv : bootBuiltins x = some u) (r : RelV v u) (hn : x ≠ "__name__" := by decide) (hd : (x == ("__debug__" : Str)) = false := by decide) : PE X (.Name x pos) (tC v) :=
  fun _ _ _ H _ I h => ld_blt I hg hm hv ⟨v, H, I, r, h⟩ hn hd

/-! ### arithmetic -/
variable {a b : Expr} {ta tb : TE} {pos : Pos}
/-! ### comparisons -/
/-! ### and, or, not -/
variable {tA tB' : TT} {rest : List Expr}
def tOr (t u : TT) : TT := fun σ H Q => t σ H fun c H1 => if c = true then Q true H1 else u σ H1 Q
def tNot (t : TT) : TT := fun σ H Q => t σ H fun c H1 => Q (!c) H1
theorem pw_or1 (ha : PT X a tA) : PW X (.BoolOp .Or [a] pos) tA := by
  intro wh pins s σ H Q I h
  refine isTrue_or (thn (ha pins s σ H Q I h) fun c s1 e => ?_)
  cases c with
  | false => exact isTrue_or_nil e
  | true => exact e
theorem pw_or (ha : PT X a tA) (hb : PW X (.BoolOp .Or (b :: rest) pos) tB') : PW X (.BoolOp .Or (a :: b :: rest) pos) (tOr tA tB') := by
  intro wh pins s σ H Q I h
  refine isTrue_or (thn (ha pins s σ H _ I h) fun c s1 ⟨H1, I1, q1⟩ => ?_)
  cases c with
  | true => exact ⟨H1, I1, q1⟩
  | false => exact hb wh pins s1 σ H1 Q I1 q1
theorem pt_not (ha : PT X a tA) : PT X (.UnaryOp .Not a pos) (tNot tA) := by
  intro pins s σ H Q I h
  exact isTrue_not (ha pins s σ H (fun c H1 => Q (!c) H1) I h)
/-- .. as values (bools) -/
def tAndV (ta tb : TE) : TE := fun σ H Q => ta σ H fun x H1 => ∃ c, x = .bl c ∧ if c = true then tb σ H1 Q else Q (.bl false) H1
theorem pe_one {op} {t : TE} (h : PE X a t) : PE X (.BoolOp op [a] pos) t := fun pins s σ H Q I hw => BoolOp_one (h pins s σ H Q I hw)
theorem pe_and (ha : PE X a ta) (hb : PE X (.BoolOp .And (b :: rest) pos) tb) : PE X (.BoolOp .And (a :: b :: rest) pos) (tAndV ta tb) := by
  intro pins s σ H Q I h
  refine BoolOp_and (thn (ha pins s σ H _ I h) fun v s1 ⟨x, H1, I1, r1, q1⟩ => ?_)
  obtain ⟨c, rfl, q1⟩ := q1
  cases r1
  refine wpAny_truthy_bool ?_
  cases c with
  | true => exact hb pins s1 σ H1 Q I1 q1
  | false => exact ⟨.bl false, H1, I1, rfl, q1⟩
end
end L2

namespace L2
open PySem PySem.Spec PyProof.Rows

/-! ### a list, a tuple that is read: tracked, frozen, or an object of the module -/
def SqL (K : PySem.W.Frag) (H : Hp) (a : Addr) (xs : List V) : Prop :=
  Rd H a (.lst xs) ∨
    ∃ (o : Obj) (its : Array Value) (n : Nat), K.lookup a = some o ∧ o.cls = .type "list" ∧ o.dict = none ∧ o.data = .seq its n ∧ its.size ≤ sizeLine ∧ Vals xs its.toList
def SqT (K : PySem.W.Frag) (H : Hp) (a : Addr) (xs : List V) : Prop :=
  Rd H a (.tup xs) ∨
    ∃ (o : Obj) (its : Array Value) (n : Nat), K.lookup a = some o ∧ o.cls = .type "tuple" ∧ o.data = .seq its n ∧ its.size ≤ sizeLine ∧ Vals xs its.toList
def absV : Value → Option V
  | .none => some .non
  | .bool b => some (.bl b)
  | .int i _ => some (.int i)
  | .str x _ => some (.str x)
  | .bytes b _ => some (.byt b)
  | .float b _ => some (.flt b)
  | .ref a => some (.ref a)
  | .type n => some (.ty n)
  | _ => none
theorem RelV.abs {x : V} {u : Value} (r : RelV x u) : absV u = some x := by
  cases x with
  | non => cases r; rfl
  | bl _ => cases r; rfl
  | int _ => obtain ⟨t, rfl⟩ := r; rfl
  | str _ => obtain ⟨t, rfl⟩ := r; rfl
  | byt _ => obtain ⟨t, rfl⟩ := r; rfl
  | flt _ => obtain ⟨t, rfl⟩ := r; rfl
  | ref _ => cases r; rfl
  | ty _ => cases r; rfl
theorem RelV.inj {x y : V} {u : Value} (r : RelV x u) (q : RelV y u) : x = y := Option.some.inj (r.abs.symm.trans q.abs)
theorem Vals.inj : ∀ {xs ys : List V} {us : List Value}, Vals xs us → Vals ys us → xs = ys
  | _, _, _, .nil, .nil => rfl
  | _, _, _, .cons r t, .cons r' t' => by rw [r.inj r', Vals.inj t t']
section
variable {X : Cx} {pins : List (Addr × Obj)} {σ : St} {H : Hp} {s : Shared} {a : Addr} {xs ys : List V}
theorem SqL.of {K : PySem.W.Frag} (h : H a = some (.lst xs)) : SqL K H a xs := .inl (.inl h)
theorem SqT.of {K : PySem.W.Frag} (h : H a = some (.tup xs)) : SqT K H a xs := .inl (.inl h)
theorem Inv.list (I : Inv X pins σ H s) (h : SqL X.K H a xs) : ∃ its : List Value, Vals xs its ∧ PlainL s.heap a its.toArray ∧ xs.length ≤ sizeLine := by
  rcases h with h | ⟨o, its, n, hk, hc, hd, hs, hz, r⟩
  · obtain ⟨z, its, n, r, e⟩ := h.ok I.hok
    exact ⟨its, r, ⟨_, n, e, rfl, rfl, rfl⟩, z⟩
  · refine ⟨its.toList, r, ⟨o, n, I.kIn a o hk, hc, hd, by simpa using hs⟩, ?_⟩
    have e := r.length
    simp only [Array.length_toList] at e
    omega
theorem Inv.tuple (I : Inv X pins σ H s) (h : SqT X.K H a xs) : ∃ its : List Value, Vals xs its ∧ IsTup s.heap a its.toArray ∧ xs.length ≤ sizeLine := by
  rcases h with h | ⟨o, its, n, hk, hc, hs, hz, r⟩
  · obtain ⟨z, its, r, p⟩ := h.ok I.hok
    exact ⟨its, r, p, z⟩
  · refine ⟨its.toList, r, ⟨o, I.kIn a o hk, hc, n, by simpa using hs⟩, ?_⟩
    have e := r.length
    simp only [Array.length_toList] at e
    omega
theorem Inv.list_inj (I : Inv X pins σ H s) (h : SqL X.K H a xs) (h' : SqL X.K H a ys) : xs = ys := by
  obtain ⟨its, r, ⟨o, n, e, _, _, d⟩, _⟩ := I.list h
  obtain ⟨its', r', ⟨o', n', e', _, _, d'⟩, _⟩ := I.list h'
  rw [e] at e'; cases e'
  rw [d] at d'
  injection d' with d1 _
  have : its = its' := by simpa using congrArg Array.toList d1
  subst this
  exact r.inj r'
end

/-! ### another wish about exceptions -/
abbrev Cx.wish (X : Cx) (E : Value → Shared → Prop) : Cx := { X with xe := E }
/-- no exception leaves -/
abbrev Cx.nox (X : Cx) : Cx := X.wish fun _ _ => False
theorem Cx.Ok.wish {X : Cx} (ok : X.Ok) (E : Value → Shared → Prop) : (X.wish E).Ok :=
  ⟨ok.mod, ok.kind, ok.glob, ok.blt, ok.above, ok.inj, ok.has, ok.cab, ok.hd, ok.frames, ok.stk, ok.exf, ok.bs, ok.bsz, ok.noex, ok.exfs, ok.funs, ok.frf⟩
theorem Cx.Ok.unwish {X : Cx} {E : Value → Shared → Prop} (ok : (X.wish E).Ok) : X.Ok :=
  ⟨ok.mod, ok.kind, ok.glob, ok.blt, ok.above, ok.inj, ok.has, ok.cab, ok.hd, ok.frames, ok.stk, ok.exf, ok.bs, ok.bsz, ok.noex, ok.exfs, ok.funs, ok.frf⟩
section
variable {X : Cx} {pins : List (Addr × Obj)} {σ : St} {H : Hp} {s : Shared} {E : Value → Shared → Prop}
theorem Inv.wish (I : Inv X pins σ H s) (E : Value → Shared → Prop) : Inv (X.wish E) pins σ H s := ⟨I.ok.wish E, I.os, I.bare, I.base, I.loc, I.cell, I.free, I.freeC, I.pin, I.hok, I.len⟩
theorem Inv.unwish (I : Inv (X.wish E) pins σ H s) : Inv X pins σ H s := ⟨I.ok.unwish, I.os, I.bare, I.base, I.loc, I.cell, I.free, I.freeC, I.pin, I.hok, I.len⟩
theorem SP.unwish {D : Ends} {f : Flow} {s' : Shared} (h : SP (X.wish E) pins D f s') : SP X pins D f s' := by
  cases f with
  | next => obtain ⟨σ', H', I, q⟩ := h; exact ⟨σ', H', I.unwish, q⟩
  | brk => obtain ⟨σ', H', I, q⟩ := h; exact ⟨σ', H', I.unwish, q⟩
  | cont => obtain ⟨σ', H', I, q⟩ := h; exact ⟨σ', H', I.unwish, q⟩
  | ret u => obtain ⟨v, σ', H', I, r, q⟩ := h; exact ⟨v, σ', H', I.unwish, r, q⟩
theorem PE.nox {e : Expr} {t : TE} (h : PE X.nox e t) : PE X e t := fun pins s σ H Q I hw =>
  wpAny_mono (h pins s σ H Q (I.wish _) hw) (fun _ _ ⟨v, H', I', r, q⟩ => ⟨v, H', I'.unwish, r, q⟩) fun _ _ z => False.elim z
theorem PT.nox {e : Expr} {t : TT} (h : PT X.nox e t) : PT X e t := fun pins s σ H Q I hw =>
  wpAny_mono (h pins s σ H Q (I.wish _) hw) (fun _ _ ⟨H', I', q⟩ => ⟨H', I'.unwish, q⟩) fun _ _ z => False.elim z
theorem PSs.nox {st : List Stmt} {t : TS} (h : PSs X.nox st t) : PSs X st t := fun pins s σ H D I hw =>
  wpAny_mono (h pins s σ H D (I.wish _) hw) (fun _ _ q => q.unwish) fun _ _ z => False.elim z
end

/-! ### blocks and small statements -/
section
variable {X : Cx} {st : Stmt} {rest : List Stmt} {t u : TS} {e : Expr} {te : TE} {pos : Pos}
def tNext : TS := fun D σ H => D.nx σ H
def tSeq (t u : TS) : TS := fun D σ H => t { D with nx := u D } σ H
theorem pss_nil : PSs X [] tNext := fun _ _ σ H _ I h => wpAny_execs_nil ⟨σ, H, I, h⟩
theorem pss_cons (h1 : PS X st t) (h2 : PSs X rest u) : PSs X (st :: rest) (tSeq t u) := by
  intro pins s σ H D I h
  refine wpAny_execs_cons (thn (h1 pins s σ H { D with nx := u D } I h) fun f s1 q => ?_)
  cases f with
  | next =>
    obtain ⟨σ', H', I', q⟩ := q
    exact h2 pins s1 σ' H' D I' q
  | ret v => exact q
  | brk => exact q
  | cont => exact q
theorem pss_one (h1 : PS X st t) : PSs X [st] t := by
  intro pins s σ H D I h
  refine wpAny_execs_cons (thn (h1 pins s σ H D I h) fun f s1 q => ?_)
  cases f with
  | next => exact wpAny_execs_nil q
  | ret v => exact q
  | brk => exact q
  | cont => exact q
/-- in a def's body nothing is shown -/
theorem Inv.quiet {pins : List (Addr × Obj)} {σ : St} {H : Hp} {s : Shared} (I : Inv X pins σ H s) : interactive X.env = false := by simp [interactive, I.ok.kind]
/-- an expression whose value is dropped -/
def tDrop (te : TE) : TS := fun D σ H => te σ H fun _ H1 => D.nx σ H1
theorem ps_expr (he : PE X e te) (hs : swapsWith e none pos.line X.env = pure false := by rfl) : PS X (.Expr e pos) (tDrop te) := by
  intro pins s σ H D I h
  exact wpAny_Expr_any (thn (he pins s σ H _ I h) fun v s1 ⟨x, H1, I1, r1, q1⟩ => ⟨σ, H1, I1, q1⟩) I.quiet hs
def tRet (te : TE) : TS := fun D σ H => te σ H D.rt
theorem ps_ret (he : PE X e te) : PS X (.Return (some e) pos) (tRet te) := by
  intro pins s σ H D I h
  exact wpAny_Return_some (thn (he pins s σ H _ I h) fun v s1 ⟨x, H1, I1, r1, q1⟩ => ⟨x, σ, H1, I1, r1, q1⟩)
def tIfS (c : TT) (t u : TS) : TS := fun D σ H => c σ H fun b H1 => if b = true then t D σ H1 else u D σ H1
theorem ps_if {c : Expr} {a b : List Stmt} {tc : TT} (hc : PT X c tc) (ha : PSs X a t) (hb : PSs X b u) : PS X (.If c a b pos) (tIfS tc t u) := by
  intro pins s σ H D I h
  refine wpAny_If (thn (hc pins s σ H _ I h) fun d s1 ⟨H1, I1, q1⟩ => ?_)
  cases d with
  | true => exact ha pins s1 σ H1 D I1 q1
  | false => exact hb pins s1 σ H1 D I1 q1
/-- code that the proof never comes to -/
def tNever : TS := fun _ _ _ => False
theorem ps_never : PS X st tNever := fun _ _ _ _ _ _ h => h.elim
theorem pss_never {sts : List Stmt} : PSs X sts tNever := fun _ _ _ _ _ _ h => h.elim
end

/-! ### targets -/
abbrev TG := V → St → Hp → (St → Hp → Prop) → Prop
def PG (X : Cx) (target : Expr) (t : TG) : Prop :=
  ∀ (pins : List (Addr × Obj)) (s : Shared) (σ : St) (H : Hp) (v : V) (u : Value) (Q : St → Hp → Prop), Inv X pins σ H s → RelV v u → t v σ H Q →
    wpAny (model X.prog X.w) X.A (assign target X.env u) (fun _ s' => ∃ σ' H', Inv X pins σ' H' s' ∧ Q σ' H') X.xe s
/-- o[i] = v, by values -/
abbrev TSet := V → V → V → Hp → (Hp → Prop) → Prop
def PSet (X : Cx) (t : TSet) : Prop :=
  ∀ (pins : List (Addr × Obj)) (s : Shared) (σ : St) (H : Hp) (o i v : V) (ov iv u : Value) (Q : Hp → Prop), Inv X pins σ H s → RelV o ov → RelV i iv → RelV v u → t o i v H Q →
    wpAny (model X.prog X.w) X.A (setItem ov iv u) (fun _ s' => ∃ H', Inv X pins σ H' s' ∧ Q H') X.xe s
/-- a op= b, by values -/
abbrev TIp := V → V → Hp → VK → Prop
def PIp (X : Cx) (op : Operator) (t : TIp) : Prop :=
  ∀ (pins : List (Addr × Obj)) (s : Shared) (σ : St) (H : Hp) (x y : V) (v u : Value) (Q : VK), Inv X pins σ H s → RelV x v → RelV y u → t x y H Q →
    wpAny (model X.prog X.w) X.A (inplaceOp op v u) (EP X pins σ Q) X.xe s
section
variable {X : Cx} {pos : Pos}
def gName (i : Nat) : TG := fun v σ H Q => Q (σ.set i (some v)) H
theorem pg_name {i : Nat} {x : Str} (hN : X.N.Nodup) (hi : X.N[i]? = some x) (hx : Loc X.env.scope x) (hf : X.fn x = true ∨ X.env.scope.names.lookup x = some .local := by first | exact .inl rfl | exact .inr rfl | assumption) : PG X (.Name x pos) (gName i) := by
  intro pins s σ H v u Q I r h
  exact wpAny_assign_Name (store_ok I hN hi hx r (fun s' I' => ⟨_, H, I', h⟩) hf)
/-- o[i] = .. -/
def gSub (to ti : TE) (t : TSet) : TG := fun v σ H Q => to σ H fun o H1 => ti σ H1 fun i H2 => t o i v H2 fun H3 => Q σ H3
theorem pg_sub {o i : Expr} {to ti : TE} {t : TSet} (ho : PE X o to) (hi : PE X i ti) (hs : PSet X t)
    (ha : ∀ v, assign (.Subscript o i pos) X.env v = (do
      let ov ← holding [v] (eval o X.env)
      let iv ← holding [v, ov] (eval i X.env)
      standAt pos
      holding [v, ov, iv] (setItem ov iv v)
      release [v, ov, iv] []) := by intro _; rfl) : PG X (.Subscript o i pos) (gSub to ti t) := by
  intro pins s σ H v u Q I r h
  rw [ha]
  refine wpAny_bind (wpAny_holding (thn (ho pins s σ H _ I h) fun ov s1 ⟨x, H1, I1, r1, q1⟩ => ?_))
  refine wpAny_bind (wpAny_holding (thn (hi pins s1 σ H1 _ I1 q1) fun iv s2 ⟨y, H2, I2, r2, q2⟩ => ?_))
  refine wpAny_bind (wpAny_standAt (wpAny_bind (wpAny_holding (thn (hs pins s2 σ H2 x y v ov iv u _ I2 r1 r2 r q2) fun _ s3 ⟨H3, I3, q3⟩ => ?_))))
  exact wpAny_release ⟨σ, H3, I3, q3⟩
/-- target = value -/
def tAsg (te : TE) (g : TG) : TS := fun D σ H => te σ H fun x H1 => g x σ H1 D.nx
theorem ps_asg {tg e : Expr} {te : TE} {g : TG} (he : PE X e te) (hg : PG X tg g) (hs : swapsWithSole [tg] e pos.line X.env = pure false := by rfl) (hw : swappedStores [tg] e X.env = pure none := by rfl)
    (h1 : (assignEach [tg] X.env).map (·.2) = [assign tg X.env] := by rfl) : PS X (.Assign [tg] e pos) (tAsg te g) := by
  intro pins s σ H D I h
  refine wpAny_Assign_stores (thn (he pins s σ H _ I h) fun v s1 ⟨x, H1, I1, r1, q1⟩ => ?_) hs hw
  rw [h1]
  exact thn (hg pins s1 σ H1 x v _ I1 r1 q1) fun _ s2 q => q
/-- name = value -/
theorem ps_set {i : Nat} {x : Str} {e : Expr} {te : TE} {pos' : Pos} (hN : X.N.Nodup) (hi : X.N[i]? = some x) (hx : Loc X.env.scope x) (he : PE X e te) (hs : swapsWith e (some (.Name x pos')) pos.line X.env = pure false := by rfl) (hf : X.fn x = true ∨ X.env.scope.names.lookup x = some .local := by first | exact .inl rfl | exact .inr rfl | assumption) :
    PS X (.Assign [.Name x pos'] e pos) (tAsg te (gName i)) := by
  intro pins s σ H D I h
  refine wpAny_Assign_Name (thn (he pins s σ H _ I h) fun v s1 ⟨y, H1, I1, r1, q1⟩ => ?_) hs
  exact store_ok I1 hN hi hx r1 (fun s2 I2 => ⟨_, H1, I2, q1⟩) hf
/-- name op= e -/
def tAug (i : Nat) (te : TE) (ti : TIp) : TS := fun D σ H => ∃ x, σ[i]? = some (some x) ∧ te σ H fun y H1 => ti x y H1 fun z H2 => D.nx (σ.set i (some z)) H2
theorem ps_aug {i : Nat} {x : Str} {e : Expr} {te : TE} {op : Operator} {ti : TIp} {pos' : Pos} (hN : X.N.Nodup) (hi : X.N[i]? = some x) (hx : Loc X.env.scope x) (he : PE X e te) (ho : PIp X op ti) (hf : X.fn x = true ∨ X.env.scope.names.lookup x = some .local := by first | exact .inl rfl | exact .inr rfl | assumption) :
    PS X (.AugAssign (.Name x pos') op e pos) (tAug i te ti) := by
  intro pins s σ H D I h
  obtain ⟨v, e1, h⟩ := h
  obtain ⟨m, hn, hl⟩ := I.loc
  have vis : Vis X.env.scope x := by rcases hx with k | k; exact .inl k; exact .inr (.inl k)
  obtain ⟨u, r, l⟩ := hl i x v hi e1 vis
  refine wpAny_AugAssign_Name ?_
  have go : wpAny (model X.prog X.w) X.A (eval e X.env) (fun w s₂ => wpAny (model X.prog X.w) X.A (inplaceOp op u w) (fun r s₃ => wpAny (model X.prog X.w) X.A (storeName X.env x r) (fun _ => SP X pins D .next) X.xe s₃) X.xe s₂) X.xe s := by
    refine thn (he pins s σ H _ I h) fun w s1 ⟨y, H1, I1, r1, q1⟩ => ?_
    refine thn (ho pins s1 σ H1 v y u w _ I1 r r1 q1) fun z s2 ⟨zv, H2, I2, r2, q2⟩ => ?_
    exact store_ok I2 hN hi hx r2 (fun s3 I3 => ⟨_, H2, I3, q2⟩) hf
  rcases l with ⟨hk, hm⟩ | ⟨hk, c, hc, hcell⟩
  · exact wpAny_loadName_local I.ok.kind hk hn hm go
  · rcases hk with hk | hk
    · exact wpAny_loadName_cell I.ok.kind hk hc hcell go
    · rcases hx with k | k
      · have : X.env.scope.names.lookup x = some .free := hk
        rw [k] at this; cases this
      · have : X.env.scope.names.lookup x = some .free := hk
        rw [k] at this; cases this
/-- ints -/
def ipI (f : Int → Int → Int) : TIp := fun x y H Q => ∃ i j, x = .int i ∧ y = .int j ∧ Q (.int (f i j)) H
theorem ip_add : PIp X .Add (ipI fun i j => i + j) := by
  intro pins s σ H x y v u Q I r1 r2 h
  obtain ⟨i, j, e1, e2, q⟩ := h
  subst e1; subst e2
  obtain ⟨t, rfl⟩ := r1
  obtain ⟨t', rfl⟩ := r2
  exact iadd_int ⟨.int _, H, I.tok _, ⟨_, rfl⟩, q⟩
end

/-! ### while -/
section
variable {X : Cx} {pos : Pos}
/-- the invariant W with its measure -/
def tWhile (c : TT) (tb : TS) : TS := fun D σ H => ∃ W : Nat → St → Hp → Prop, (∃ m, W m σ H) ∧ ∀ m σ H, W m σ H →
  c σ H fun b H1 => if b = true then ∃ N : St → Hp → Prop, (∀ σ' H', N σ' H' → ∃ m', m' < m ∧ W m' σ' H') ∧ tb { D with nx := N, ct := N, bk := D.nx } σ H1 else D.nx σ H1
theorem ps_while {c : Expr} {body : List Stmt} {tc : TT} {tb : TS} (hp : PassesOwn (model X.prog X.w) X.A X.env X.xe) (hc : PT X c tc) (hb : PSs X body tb) : PS X (.While c body [] pos) (tWhile tc tb) := by
  intro pins s σ H D I h
  obtain ⟨W, ⟨m0, w0⟩, turn⟩ := h
  refine wpAny_While (codeAny_whileLoop (fun n s' => ∃ σ' H', Inv X pins σ' H' s' ∧ W n σ' H') ?_ m0 ⟨σ, H, I, w0⟩)
  rintro n s1 ⟨σ1, H1, I1, w1⟩
  refine wpAny_passesOwn hp (thn (hc pins s1 σ1 H1 _ I1 (turn n σ1 H1 w1)) fun b s2 ⟨H2, I2, q2⟩ => ?_)
  cases b with
  | true =>
    obtain ⟨N, hN, q2⟩ := q2
    rw [if_pos rfl]
    refine wpAny_passesOwn hp (thn (hb pins s2 σ1 H2 _ I2 q2) fun f s3 q3 => ?_)
    cases f with
    | next =>
      obtain ⟨σ3, H3, I3, n3⟩ := q3
      obtain ⟨m', hm, w3⟩ := hN σ3 H3 n3
      exact ⟨m', hm, σ3, H3, I3, w3⟩
    | cont =>
      obtain ⟨σ3, H3, I3, n3⟩ := q3
      obtain ⟨m', hm, w3⟩ := hN σ3 H3 n3
      exact ⟨m', hm, σ3, H3, I3, w3⟩
    | brk => exact q3
    | ret v => exact q3
  | false =>
    rw [if_neg Bool.false_ne_true]
    exact wpAny_execs_nil ⟨σ1, H2, I2, q2⟩
end

/-! ### what a loop or a comprehension walks -/
/-- at turn i: it yields x (the heap may grow), or it stops -/
structure It where
  go : Nat → Hp → Prop
  yld : Nat → Hp → V → Hp → Prop
  stop : Nat → Hp → Prop
/-- the iterator's own objects may turn: they are not the frame's, not pinned, younger than the entry (or a comprehension's own) -/
def FpOk (X : Cx) (pins : List (Addr × Obj)) (H : Hp) (b : Addr) : Prop :=
  H b = none ∧ b ≠ X.env.locals ∧ b ∉ X.fs ∧ (b ∈ X.ex ∨ X.s₀.heap.objs.size ≤ b) ∧ (∀ x c, X.env.cells.lookup x = some c → c ≠ b) ∧ ∀ p ∈ X.pn ++ pins, p.1 ≠ b
theorem Inv.fpOk {X : Cx} {pins : List (Addr × Obj)} {σ : St} {H H' : Hp} {s : Shared} {b : Addr} (I : Inv X pins σ H s) (hb : s.heap.objs.size ≤ b) (hn : H' b = none) : FpOk X pins H' b := by
  refine ⟨hn, Nat.ne_of_gt (Nat.lt_of_lt_of_le I.lt hb), I.nofs hb, .inr (Nat.le_trans I.sz hb), fun x c e z => ?_, fun p hp z => ?_⟩
  · obtain ⟨v, q⟩ := I.cell x c e
    exact absurd (Nat.lt_of_lt_of_le q.lt (by rw [z]; exact hb)) (Nat.lt_irrefl _)
  · exact absurd (Nat.lt_of_lt_of_le (Heap.lt_size (I.pin p hp).1) (by rw [z]; exact hb)) (Nat.lt_irrefl _)
structure Turn (P : Program) (w : World) (K : PySem.W.Frag) (tg : Expr) (J : It) (fp : List Addr) (it : Addr) (tn : Nat → Heap → Prop) : Prop where
  mem : it ∈ fp
  obj : ∀ i h, tn i h → ∀ b ∈ fp, ∃ o, h.get? b = some o ∧ ∀ v, o.data ≠ .cell v
  keep : ∀ i h h', tn i h → (∀ b ∈ fp, ∀ o, h.get? b = some o → h'.get? b = some o) → tn i h'
  item : ∀ (X : Cx), X.prog = P → X.w = w → X.K = K → X.calm = true → ∀ (i : Nat) (pins : List (Addr × Obj)) (s : Shared) (σ : St) (H : Hp) (E : Value → Shared → Prop), Inv X pins σ H s → (∀ b ∈ fp, FpOk X pins H b) → tn i s.heap → J.go i H →
    wpAny (model P w) X.A (pyNext (.ref it)) (fun r s1 => ∃ u, r = some u ∧
      wpAny (model P w) X.A (letOwnedTupleGo tg (.ref it) u) (fun _ s2 => ∃ x H', Inv X pins σ H' s2 ∧ RelV x u ∧ J.yld i H x H' ∧ tn (i + 1) s2.heap ∧ ∀ b ∈ fp, H' b = none) E s1) E s
  done : ∀ (X : Cx), X.prog = P → X.w = w → X.K = K → X.calm = true → ∀ (i : Nat) (pins : List (Addr × Obj)) (s : Shared) (σ : St) (H : Hp) (E : Value → Shared → Prop), Inv X pins σ H s → (∀ b ∈ fp, FpOk X pins H b) → tn i s.heap → J.stop i H →
    wpAny (model P w) X.A (pyNext (.ref it)) (fun r s1 => r = none ∧ Inv X pins σ H s1) E s
  self : ∀ (A : Around) (i : Nat) (s : Shared) (Q : Value → Shared → Prop) (E : Value → Shared → Prop), tn i s.heap → Q (.ref it) s → wpAny (model P w) A (pyIter (.ref it)) Q E s
abbrev TI := St → Hp → (It → Hp → Prop) → Prop
/-- an iterator has come -/
def PIE (X : Cx) (pins : List (Addr × Obj)) (σ : St) (tg : Expr) (R : It → Hp → Prop) (itv : Value) (s2 : Shared) : Prop :=
  ∃ (it : Addr) (fp : List Addr) (tn : Nat → Heap → Prop) (J : It) (H' : Hp), itv = .ref it ∧ Inv X pins σ H' s2 ∧ Turn X.prog X.w X.K tg J fp it tn ∧ tn 0 s2.heap ∧ (∀ b ∈ fp, FpOk X pins H' b) ∧ R J H'
def PI (X : Cx) (tg iter : Expr) (wi : TI) : Prop :=
  ∀ (pins : List (Addr × Obj)) (s : Shared) (σ : St) (H : Hp) (R : It → Hp → Prop), Inv X pins σ H s → wi σ H R →
    wpAny (model X.prog X.w) X.A (eval iter X.env) (fun v s1 => wpAny (model X.prog X.w) X.A (pyIter v) (PIE X pins σ tg R) X.xe s1) X.xe s

/-- the step ahead of the store is nothing for an iterator that keeps no tuple -/
theorem go_of {M : Model} {A : Around} {E : Value → Shared → Prop} {s : Shared} {tg : Expr} {it : Addr} {u : Value} {o : Obj} {n : String} {vs : Array Value} {Q : Unit → Shared → Prop} (ho : s.heap.get? it = some o) (hc : o.cls = .type n) (hd : o.data = .fields vs)
    (hn : ["enumerate", "zip", "dict_itemiterator", "dict_reverseitemiterator", "odict_iterator", "itertools.zip_longest", "itertools.pairwise"].contains n = false) (hQ : Q () s) : wpAny M A (letOwnedTupleGo tg (.ref it) u) Q E s := by
  unfold letOwnedTupleGo
  cases tg <;> first
    | exact wpAny_pure hQ
    | (cases u <;> first
        | exact wpAny_pure hQ
        | (refine wpAny_bind (wpAny_load ho ?_)
           rw [hc, hd]
           show wpAny M A (if (["enumerate", "zip", "dict_itemiterator", "dict_reverseitemiterator", "odict_iterator", "itertools.zip_longest", "itertools.pairwise"].contains n && vs[0]? == some (rawInt _)) = true then _ else _) Q E s
           rw [if_neg (by intro h; rw [hn, Bool.false_and] at h; cases h)]
           exact wpAny_pure hQ))

/-- the list at a, as it stands at each turn (a loop may append to it) -/
def Itl (K : PySem.W.Frag) (a : Addr) : It :=
  ⟨fun i H => ∃ xs x, SqL K H a xs ∧ xs[i]? = some x, fun i H x H' => H' = H ∧ ∀ xs, SqL K H a xs → xs[i]? = some x, fun i H => ∃ xs, SqL K H a xs ∧ xs.length ≤ i⟩
/-- lo, lo + 1, .. (n of them) -/
def Itr (lo : Int) (n : Nat) : It := ⟨fun i _ => i < n, fun i H x H' => H' = H ∧ x = .int (lo + i), fun i _ => n ≤ i⟩
theorem turn_list {P : Program} {w : World} {K : PySem.W.Frag} {tg : Expr} (a it : Addr) : Turn P w K tg (Itl K a) [it] it (fun i h => h.IsListIter it a i) where
  mem := by simp
  obj := fun i h st b hb => by
    have e : b = it := by simpa using hb
    subst e
    obtain ⟨o, e, c, d⟩ := st
    exact ⟨o, e, fun v z => by rw [d] at z; cases z⟩
  keep := fun i h h' st k => st.at fun o e => k it (by simp) o e
  item := by
    intro X hP hw hK hc i pins s σ H E I hf st hg
    subst hP hw hK
    obtain ⟨xs, x, hq, hx⟩ := hg
    obtain ⟨its, rv, p, hz⟩ := I.list hq
    obtain ⟨u, hu, ru⟩ := rv.get hx
    obtain ⟨f0, f1, f2, f3, f4, f5⟩ := hf it (by simp)
    refine wpAny_pyNext_list_item st p.isList (x := u) (by simpa using hu) fun h' st' sb => ?_
    have I1 : Inv X pins σ H { s with heap := h' } := I.turned (t' := s.toks) (fun b o hb e => (sb.2 b hb).trans e) f0 f1 f3 f4 f5
    obtain ⟨o, e, c, d⟩ := id st'
    exact ⟨u, rfl, go_of (s := { s with heap := h' }) e c d (by decide) ⟨x, H, I1, ru, ⟨rfl, fun ys hy => by rw [I.list_inj hy hq]; exact hx⟩, st', fun b hb => (hf b hb).1⟩⟩
  done := by
    intro X hP hw hK hc i pins s σ H E I hf st hg
    subst hP hw hK
    obtain ⟨xs, hq, hx⟩ := hg
    obtain ⟨its, rv, p, hz⟩ := I.list hq
    obtain ⟨f0, f1, f2, f3, f4, f5⟩ := hf it (by simp)
    have hl := rv.length
    exact wpAny_pyNext_list_end (I.ok.hd hc) st p.isList (by simp; omega) fun h' eb => ⟨rfl, I.turned (t' := s.toks) (fun b o hb e => eb b o hb e) f0 f1 f3 f4 f5⟩
  self := fun _ _ _ _ _ st h => wpAny_pyIter_listiter st h
theorem turn_range {P : Program} {w : World} {K : PySem.W.Frag} {tg : Expr} (it : Addr) (lo : Int) (n : Nat) : Turn P w K tg (Itr lo n) [it] it (fun i h => IsRangeIter h it (lo + (i : Nat) * 1) ((n : Int) - (i : Nat)) 1) where
  mem := by simp
  obj := fun i h st b hb => by
    have e : b = it := by simpa using hb
    subst e
    exact ⟨_, st, fun v z => by
      have z' : Data.fields _ = Data.cell v := z
      cases z'⟩
  keep := fun i h h' st k => k it (by simp) _ st
  item := by
    intro X hP hw hK hc i pins s σ H E I hf st hg
    subst hP hw hK
    obtain ⟨f0, f1, f2, f3, f4, f5⟩ := hf it (by simp)
    have W := Walks.range (prog := X.prog) (w := X.w) (I.ok.hd hc) it lo 1 n
    refine W.item i s _ _ hg st fun v h' tk hv st' kk => ?_
    obtain ⟨t, rfl⟩ := hv
    have I1 : Inv X pins σ H { s with heap := h', toks := tk } := I.turned (fun b o hb e => kk b o (by simpa using hb) e) f0 f1 f3 f4 f5
    refine ⟨_, rfl, go_of (s := { s with heap := h', toks := tk }) (n := "range_iterator") st' rfl rfl (by decide) ⟨.int (lo + i), H, I1, ⟨t, ?_⟩, ⟨rfl, rfl⟩, st', fun b hb => (hf b hb).1⟩⟩
    rw [Int.mul_one]
  done := by
    intro X hP hw hK hc i pins s σ H E I hf st hg
    subst hP hw hK
    obtain ⟨f0, f1, f2, f3, f4, f5⟩ := hf it (by simp)
    exact wpAny_pyNext_range_end (I.ok.hd hc) st (by have : n ≤ i := hg; omega) fun h' eb => ⟨rfl, I.turned (t' := s.toks) (fun b o hb e => eb b o hb e) f0 f1 f3 f4 f5⟩
  self := fun _ _ _ _ _ st h => wpAny_pyIter_rangeiter st h
end L2

namespace L2
open PySem PySem.Spec PyProof.Rows
section
variable {X : Cx} {tg : Expr}
def iList (K : PySem.W.Frag) (tl : TE) : TI := fun σ H R => tl σ H fun x H1 => ∃ a, x = .ref a ∧ (∃ xs, SqL K H1 a xs) ∧ R (Itl K a) H1
theorem pi_list {l : Expr} {tl : TE} (hl : PE X l tl) : PI X tg l (iList X.K tl) := by
  intro pins s σ H R I h
  refine thn (hl pins s σ H _ I h) fun v s1 ⟨x, H1, I1, r1, q1⟩ => ?_
  obtain ⟨a, e, ⟨xs, hq⟩, q⟩ := q1
  subst e
  cases r1
  obtain ⟨its, rv, p, hz⟩ := I1.list hq
  refine wpAny_pyIter_list p.isList ?_
  refine ⟨s1.heap.objs.size, [s1.heap.objs.size], _, _, H1, rfl, I1.kept (t' := s1.toks) fun b o e => Heap.get?_push_of_some _ e, turn_list a _, ⟨_, Heap.get?_push_size _ rfl, rfl, rfl⟩, fun b hb => ?_, q⟩
  have e : b = s1.heap.objs.size := by simpa using hb
  subst e
  exact I1.fpOk (Nat.le_refl _) (I1.hok.fresh (Nat.le_refl _))
/-- a range object just made, walked -/
theorem range_it {pins : List (Addr × Obj)} {σ : St} {H : Hp} {s : Shared} {R : It → Hp → Prop} {E : Value → Shared → Prop} {lo hi : Int} {t u v : Tok} {tk : Nat} (I : Inv X pins σ H s) (h1 : -(2 ^ 62) ≤ lo) (h2 : lo < 2 ^ 62) (h3 : -(2 ^ 62) ≤ hi) (h4 : hi < 2 ^ 62)
    (q : R (Itr lo (hi - lo).toNat) H) : wpAny (model X.prog X.w) X.A (pyIter (.ref s.heap.objs.size)) (PIE X pins σ tg R) E { s with heap := s.heap.push { cls := .type "range", data := .fields #[.int lo t, .int hi u, .int 1 v] }, toks := tk } := by
  refine wpAny_pyIter_range (IsRange.new ..) (small_one h1 h2 h3 h4) ?_
  have I1 : Inv X pins σ H { s with heap := s.heap.push { cls := .type "range", data := .fields #[.int lo t, .int hi u, .int 1 v] }, toks := tk } := I.kept fun b o e => Heap.get?_push_of_some _ e
  refine ⟨(s.heap.push { cls := .type "range", data := .fields #[.int lo t, .int hi u, .int 1 v] }).objs.size, [(s.heap.push { cls := .type "range", data := .fields #[.int lo t, .int hi u, .int 1 v] }).objs.size], _, _, H, rfl,
    I1.kept (t' := tk) fun b o e => Heap.get?_push_of_some _ e, turn_range _ lo (hi - lo).toNat, ?_, fun b hb => ?_, q⟩
  · have e1 : lo + ((0 : Nat) : Int) * 1 = lo := by simp
    have e2 : (((hi - lo).toNat : Nat) : Int) - ((0 : Nat) : Int) = Builtin.Range.rangeSize lo hi 1 := by rw [rangeSize_one]; split <;> omega
    show IsRangeIter _ _ (lo + ((0 : Nat) : Int) * 1) ((((hi - lo).toNat : Nat) : Int) - ((0 : Nat) : Int)) 1
    rw [e1, e2]
    exact Heap.get?_push_size _ rfl
  · have e : b = (s.heap.push { cls := .type "range", data := .fields #[.int lo t, .int hi u, .int 1 v] }).objs.size := by simpa using hb
    subst e
    exact I1.fpOk (Nat.le_refl _) (I1.hok.fresh (Nat.le_refl _))
def iRng1 (ta : TA) : TI := fun σ H R => ta σ H fun vs H1 => ∃ j : Int, vs = [.int j] ∧ -(2 ^ 62) ≤ j ∧ j < 2 ^ 62 ∧ R (Itr 0 j.toNat) H1
def iRng2 (ta : TA) : TI := fun σ H R => ta σ H fun vs H1 => ∃ i j : Int, vs = [.int i, .int j] ∧ (-(2 ^ 62) ≤ i ∧ i < 2 ^ 62 ∧ -(2 ^ 62) ≤ j ∧ j < 2 ^ 62) ∧ R (Itr i (j - i).toNat) H1
theorem pi_range1 {a : Expr} {ta : TA} {p pos : Pos} (hg : Gl X "range") (hm : X.mg "range" = none) (ha : PA X [a] ta) (hs : starEach [a] X.env = [(false, eval a X.env)] := by rfl) : PI X tg (.Call (.Name "range" p) [a] [] pos) (iRng1 ta) := by
  intro pins s σ H R I h
  refine Call_ (ld_blt I hg hm boot_range (PyProof.Rows.callWith_type1 (thn (ha pos pins s σ H _ I h) fun us s1 ⟨vs, H1, I1, r1, q1⟩ => ?_) hs rfl))
  obtain ⟨j, e, q1, q2, q⟩ := q1
  subst e
  cases r1 with
  | cons r rr =>
    cases rr
    obtain ⟨t, rfl⟩ := r
    exact call_range_1 (range_it I1 (by omega) (by omega) q1 q2 (by simpa using q))
theorem pi_range2 {a b : Expr} {ta : TA} {p pos : Pos} (hg : Gl X "range") (hm : X.mg "range" = none) (ha : PA X [a, b] ta) (hs : starEach [a, b] X.env = [(false, eval a X.env), (false, eval b X.env)] := by rfl) (hs2 : starEach [b] X.env = [(false, eval b X.env)] := by rfl) :
    PI X tg (.Call (.Name "range" p) [a, b] [] pos) (iRng2 ta) := by
  intro pins s σ H R I h
  refine Call_ (ld_blt I hg hm boot_range (PyProof.Rows.callWith_type1 (thn (ha pos pins s σ H _ I h) fun us s1 ⟨vs, H1, I1, r1, q1⟩ => ?_) (by rw [hs, hs2]) (by rw [hs2]; rfl)))
  obtain ⟨i, j, e, ⟨q1, q2, q3, q4⟩, q⟩ := q1
  subst e
  cases r1 with
  | cons r rr =>
    cases rr with
    | cons r' rr =>
      cases rr
      obtain ⟨t, rfl⟩ := r
      obtain ⟨t', rfl⟩ := r'
      exact call_range_2 (range_it I1 q1 q2 q3 q4 q)

/-! ### for -/
/-- W: the invariant by the turn and a measure; N: what the body is to reach -/
def tFor (wi : TI) (g : TG) (tb : TS) : TS := fun D σ H => wi σ H fun J H1 => ∃ W : Nat → Nat → St → Hp → Prop, (∃ m, W 0 m σ H1) ∧ ∀ i m σ H, W i m σ H →
  (J.stop i H ∧ D.nx σ H) ∨ (J.go i H ∧ ∃ N : St → Hp → Prop, (∀ σ' H', N σ' H' → ∃ m', m' < m ∧ W (i + 1) m' σ' H') ∧ ∀ x H', J.yld i H x H' → g x σ H' fun σ2 H2 => tb { D with nx := N, ct := N, bk := D.nx } σ2 H2)
/-- the records at fp as they stand -/
def pinsAt (fp : List Addr) (h : Heap) : List (Addr × Obj) := fp.filterMap fun b => (h.get? b).map fun o => (b, o)
theorem mem_pinsAt {fp : List Addr} {h : Heap} {b : Addr} {o : Obj} (hb : b ∈ fp) (e : h.get? b = some o) : (b, o) ∈ pinsAt fp h := List.mem_filterMap.mpr ⟨b, hb, by rw [e]; rfl⟩
theorem of_pinsAt {fp : List Addr} {h : Heap} {p : Addr × Obj} (hp : p ∈ pinsAt fp h) : p.1 ∈ fp ∧ h.get? p.1 = some p.2 := by
  obtain ⟨b, hb, e⟩ := List.mem_filterMap.mp hp
  cases q : h.get? b with
  | none => rw [q] at e; cases e
  | some o =>
    rw [q] at e
    have e' : (b, o) = p := Option.some.inj e
    subst e'
    exact ⟨hb, q⟩
theorem Inv.pinned {pins : List (Addr × Obj)} {σ : St} {H : Hp} {s : Shared} {fp : List Addr} (I : Inv X pins σ H s) (hf : ∀ b ∈ fp, FpOk X pins H b) (ho : ∀ b ∈ fp, ∃ o, s.heap.get? b = some o ∧ ∀ v, o.data ≠ .cell v) : Inv X (pins ++ pinsAt fp s.heap) σ H s :=
  I.pins_of fun p hp => (List.mem_append.mp hp).elim (fun z => I.pin p (List.mem_append_right _ z)) fun z => by
    obtain ⟨hb, e⟩ := of_pinsAt z
    obtain ⟨f0, f1, f2, _⟩ := hf p.1 hb
    obtain ⟨o, e', d⟩ := ho p.1 hb
    rw [e] at e'; cases e'
    exact ⟨e, f0, f1, f2, d⟩
theorem Inv.unpinned {pins pl : List (Addr × Obj)} {σ : St} {H : Hp} {s : Shared} (I : Inv X (pins ++ pl) σ H s) : Inv X pins σ H s := I.pins_of fun p hp => I.pin p (List.mem_append_right _ (List.mem_append_left _ hp))
theorem ps_for {iter : Expr} {body : List Stmt} {wi : TI} {g : TG} {tb : TS} {pos : Pos} (hp : PassesOwn (model X.prog X.w) X.A X.env X.xe) (hc : X.calm = true) (hi : PI X tg iter wi) (hg : PG X tg g) (hb : PSs X body tb)
    (hs : ∀ x, foldedSetIterable iter X.env x = pure x := by intro _; rfl) : PS X (.For tg iter body [] pos) (tFor wi g tb) := by
  intro pins s σ H D I h
  refine wpAny_For (thn (hi pins s σ H _ I h) fun v s1 h1 => thn h1 fun itv s2 h2 => ?_) hs
  obtain ⟨it, fp, tn, J, H2, e, I2, T, st2, f2, W, ⟨m0, w0⟩, turn⟩ := h2
  subst e
  -- what stays true of the iterator's objects through the loop
  have stat : ∀ {H' : Hp}, (∀ b ∈ fp, H' b = none) → ∀ b ∈ fp, FpOk X pins H' b := fun hn b hb => ⟨hn b hb, (f2 b hb).2⟩
  refine codeAny_forLoop_any (fun n s' => ∃ i σ' H', Inv X pins σ' H' s' ∧ tn i s'.heap ∧ (∀ b ∈ fp, H' b = none) ∧ W i n σ' H') ?_ m0 ⟨0, σ, H2, I2, st2, fun b hb => (f2 b hb).1, w0⟩
  rintro n s3 ⟨i, σ3, H3, I3, st3, fr3, w3⟩
  rcases turn i n σ3 H3 w3 with ⟨stop, qn⟩ | ⟨go, N, hN, step⟩
  · refine wpAny_passesOwn hp (thn (T.done X rfl rfl rfl hc i pins s3 σ3 H3 X.xe I3 (stat fr3) st3 stop) fun r s4 ⟨hr, I4⟩ => ?_)
    subst hr
    exact wpAny_execs_nil ⟨σ3, H3, I4, qn⟩
  · refine wpAny_passesOwn hp (thn (T.item X rfl rfl rfl hc i pins s3 σ3 H3 X.xe I3 (stat fr3) st3 go) fun r s4 ⟨u, hr, h4⟩ => ?_)
    subst hr
    refine wpAny_passesOwn hp (thn h4 fun _ s5 ⟨x, H5, I5, r5, y5, st5, fr5⟩ => ?_)
    have I5' := I5.pinned (stat fr5) (T.obj _ _ st5)
    refine wpAny_passesOwn hp (thn (hg _ s5 σ3 H5 x u _ I5' r5 (step x H5 y5)) fun _ s6 ⟨σ6, H6, I6, q6⟩ => ?_)
    refine wpAny_passesOwn hp (thn (hb _ s6 σ6 H6 _ I6 q6) fun f s7 q7 => ?_)
    have again : ∀ {σ7 : St} {H7 : Hp}, Inv X (pins ++ pinsAt fp s5.heap) σ7 H7 s7 → N σ7 H7 → ∃ m, m < n ∧ ∃ i σ' H', Inv X pins σ' H' s7 ∧ tn i s7.heap ∧ (∀ b ∈ fp, H' b = none) ∧ W i m σ' H' := fun {σ7 H7} I7 n7 => by
      obtain ⟨m', hm, w7⟩ := hN σ7 H7 n7
      refine ⟨m', hm, i + 1, σ7, H7, I7.unpinned, T.keep _ _ _ st5 fun b hb o e => (I7.pin (b, o) (List.mem_append_right _ (List.mem_append_right _ (mem_pinsAt hb e)))).1, fun b hb => ?_, w7⟩
      obtain ⟨o, e, d⟩ := T.obj _ _ st5 b hb
      exact (I7.pin (b, o) (List.mem_append_right _ (List.mem_append_right _ (mem_pinsAt hb e)))).2.1
    cases f with
    | next => obtain ⟨σ7, H7, I7, n7⟩ := q7; exact again I7 n7
    | cont => obtain ⟨σ7, H7, I7, n7⟩ := q7; exact again I7 n7
    | brk => obtain ⟨σ7, H7, I7, q7⟩ := q7; exact ⟨σ7, H7, I7.unpinned, q7⟩
    | ret v => obtain ⟨x7, σ7, H7, I7, r7, q7⟩ := q7; exact ⟨x7, σ7, H7, I7.unpinned, r7, q7⟩
end

/-! ### the forms one uses -/
end L2

namespace L2
open PySem PySem.Spec PyProof.Rows

abbrev R2 := V → V → Hp → VK → Prop
/-- a two-place operation on values: f is binaryOp op, inplaceOp op or compareOp op -/
def OpR (X : Cx) (f : Value → Value → Sem Value) (r : R2) : Prop :=
  ∀ (pins : List (Addr × Obj)) (s : Shared) (σ : St) (H : Hp) (x y : V) (v u : Value) (Q : VK), Inv X pins σ H s → RelV x v → RelV y u → r x y H Q →
    wpAny (model X.prog X.w) X.A (f v u) (EP X pins σ Q) X.xe s
/-- a one-place operation -/
def UnR (X : Cx) (f : Value → Sem Value) (r : V → Hp → VK → Prop) : Prop :=
  ∀ (pins : List (Addr × Obj)) (s : Shared) (σ : St) (H : Hp) (x : V) (v : Value) (Q : VK), Inv X pins σ H s → RelV x v → r x H Q →
    wpAny (model X.prog X.w) X.A (f v) (EP X pins σ Q) X.xe s
/-- a call of a value that is known (a builtin, a type) with values -/
def CallR (X : Cx) (f : Value) (r : List V → Hp → VK → Prop) : Prop :=
  ∀ (pins : List (Addr × Obj)) (s : Shared) (σ : St) (H : Hp) (xs : List V) (us : List Value) (Q : VK), Inv X pins σ H s → Vals xs us → r xs H Q →
    wpAny (model X.prog X.w) X.A (call f us) (EP X pins σ Q) X.xe s
/-- a value's truth -/
def TruR (X : Cx) (r : V → Hp → (Bool → Hp → Prop) → Prop) : Prop :=
  ∀ (pins : List (Addr × Obj)) (s : Shared) (σ : St) (H : Hp) (x : V) (v : Value) (Q : Bool → Hp → Prop), Inv X pins σ H s → RelV x v → r x H Q →
    wpAny (model X.prog X.w) X.A (truthy v) (TP X pins σ Q) X.xe s

def tOp (r : R2) (ta tb : TE) : TE := fun σ H Q => ta σ H fun x H1 => tb σ H1 fun y H2 => r x y H2 Q
def tUn (r : V → Hp → VK → Prop) (ta : TE) : TE := fun σ H Q => ta σ H fun x H1 => r x H1 Q
/-- ints in, under C, and a value out -/
def rI (C : Int → Int → Prop) (g : Int → Int → V) : R2 := fun x y H Q => ∃ i j, x = .int i ∧ y = .int j ∧ C i j ∧ Q (g i j) H
def rI0 (g : Int → Int → V) : R2 := fun x y H Q => ∃ i j, x = .int i ∧ y = .int j ∧ Q (g i j) H
def rU (g : Int → V) : V → Hp → VK → Prop := fun x H Q => ∃ i, x = .int i ∧ Q (g i) H

section
variable {X : Cx} {a b c : Expr} {ta tb tc : TE} {pos : Pos}

theorem binT (ha : PE X a ta) (hb : PE X b tb) {pins : List (Addr × Obj)} {s : Shared} {σ : St} {H : Hp} {R : V → V → Hp → Prop} (I : Inv X pins σ H s)
    (h : ta σ H fun x H1 => tb σ H1 fun y H2 => R x y H2) {Q : Value → Shared → Prop} {f : Value → Value → Sem Value}
    (hf : ∀ v u s2 x y H2, Inv X pins σ H2 s2 → RelV x v → RelV y u → R x y H2 → wpAny (model X.prog X.w) X.A (f v u) Q X.xe s2) :
    wpAny (model X.prog X.w) X.A (eval a X.env) (fun v s₁ => wpAny (model X.prog X.w) X.A (eval b X.env) (fun u s₂ => wpAny (model X.prog X.w) X.A (f v u) Q X.xe s₂) X.xe s₁) X.xe s := by
  refine thn (ha pins s σ H _ I h) fun v s1 ⟨x, H1, I1, r1, q1⟩ => ?_
  refine thn (hb pins s1 σ H1 _ I1 q1) fun u s2 ⟨y, H2, I2, r2, q2⟩ => ?_
  exact hf v u s2 x y H2 I2 r1 r2 q2

theorem pe_op {op : Operator} {r : R2} (ho : OpR X (binaryOp op) r) (ha : PE X a ta) (hb : PE X b tb) : PE X (.BinOp a op b pos) (tOp r ta tb) := by
  intro pins s σ H Q I h
  exact wpAny_BinOp (binT ha hb I h fun v u s2 x y H2 I2 rx ry q => ho pins s2 σ H2 x y v u Q I2 rx ry q)
theorem pe_un {op : UnaryOp} {r : V → Hp → VK → Prop} (ho : UnR X (unaryOp op) r) (ha : PE X a ta) : PE X (.UnaryOp op a pos) (tUn r ta) := by
  intro pins s σ H Q I h
  exact UnaryOp_ (thn (ha pins s σ H _ I h) fun v s1 ⟨x, H1, I1, r1, q1⟩ => ho pins s1 σ H1 x v Q I1 r1 q1)
/-! ### ints -/
theorem opI {f : Value → Value → Sem Value} {C : Int → Int → Prop} {g : Int → Int → Int}
    (rule : ∀ (i j : Int) (t u : Tok) (s : Shared) (Q : Value → Shared → Prop) (E : Value → Shared → Prop), C i j → Q (.int (g i j) s.toks) { s with toks := s.toks + 1 } → wpAny (model X.prog X.w) X.A (f (.int i t) (.int j u)) Q E s) :
    OpR X f (rI C fun i j => .int (g i j)) := by
  intro pins s σ H x y v u Q I rx ry h
  obtain ⟨i, j, rfl, rfl, hc, q⟩ := h
  obtain ⟨t, rfl⟩ := rx
  obtain ⟨t', rfl⟩ := ry
  exact rule i j t t' s _ _ hc ⟨.int (g i j), H, I.tok _, ⟨_, rfl⟩, q⟩
theorem opI0 {f : Value → Value → Sem Value} {g : Int → Int → Int}
    (rule : ∀ (i j : Int) (t u : Tok) (s : Shared) (Q : Value → Shared → Prop) (E : Value → Shared → Prop), Q (.int (g i j) s.toks) { s with toks := s.toks + 1 } → wpAny (model X.prog X.w) X.A (f (.int i t) (.int j u)) Q E s) :
    OpR X f (rI0 fun i j => .int (g i j)) := by
  intro pins s σ H x y v u Q I rx ry h
  obtain ⟨i, j, rfl, rfl, q⟩ := h
  obtain ⟨t, rfl⟩ := rx
  obtain ⟨t', rfl⟩ := ry
  exact rule i j t t' s _ _ ⟨.int (g i j), H, I.tok _, ⟨_, rfl⟩, q⟩
theorem opB0 {f : Value → Value → Sem Value} {g : Int → Int → Bool}
    (rule : ∀ (i j : Int) (t u : Tok) (s : Shared) (Q : Value → Shared → Prop) (E : Value → Shared → Prop), Q (.bool (g i j)) s → wpAny (model X.prog X.w) X.A (f (.int i t) (.int j u)) Q E s) :
    OpR X f (rI0 fun i j => .bl (g i j)) := by
  intro pins s σ H x y v u Q I rx ry h
  obtain ⟨i, j, rfl, rfl, q⟩ := h
  obtain ⟨t, rfl⟩ := rx
  obtain ⟨t', rfl⟩ := ry
  exact rule i j t t' s _ _ ⟨.bl (g i j), H, I, rfl, q⟩

def CPow (i j : Int) : Prop := 0 ≤ j ∧ j ≤ 1000000 ∧ i.natAbs < 2 ^ 64
def CMul (i j : Int) : Prop := (-(2 ^ 64) < i ∧ i < 2 ^ 64) ∨ (-(2 ^ 64) < j ∧ j < 2 ^ 64)
theorem CMul.ok {i j : Int} (h : CMul i j) : IntMulOk i j := by
  rcases h with ⟨h1, h2⟩ | ⟨h1, h2⟩
  · exact .of_left (intBits_le_64 h1 h2)
  · exact .of_right (intBits_le_64 h1 h2)
theorem op_add : OpR X (binaryOp .Add) (rI0 fun i j => .int (i + j)) := opI0 fun _ _ _ _ _ _ _ q => add_int q
theorem op_sub : OpR X (binaryOp .Sub) (rI0 fun i j => .int (i - j)) := opI0 fun _ _ _ _ _ _ _ q => sub_int q
/-- % by a positive divisor of any size -/
theorem op_mod : OpR X (binaryOp .Mod) (rI (fun _ j => 0 < j) fun i j => .int (i % j)) := opI fun i j _ _ _ _ _ hc q => by
  have h1 : (0 : Int) < j := hc
  exact mod_int' (by omega) (by rw [Int.fmod_eq_emod_of_nonneg i (by omega)]; exact q)
theorem op_pow : OpR X (binaryOp .Pow) (rI CPow fun i j => .int (i ^ j.toNat)) := opI fun _ _ _ _ _ _ _ hc q => pow_int_small hc.1 hc.2.1 hc.2.2 q
theorem unI {f : Value → Sem Value} {g : Int → Int}
    (rule : ∀ (i : Int) (t : Tok) (s : Shared) (Q : Value → Shared → Prop) (E : Value → Shared → Prop), Q (.int (g i) s.toks) { s with toks := s.toks + 1 } → wpAny (model X.prog X.w) X.A (f (.int i t)) Q E s) :
    UnR X f (rU fun i => .int (g i)) := by
  intro pins s σ H x v Q I rx h
  obtain ⟨i, rfl, q⟩ := h
  obtain ⟨t, rfl⟩ := rx
  exact rule i t s _ _ ⟨.int (g i), H, I.tok _, ⟨_, rfl⟩, q⟩
theorem un_neg : UnR X (unaryOp .USub) (rU fun i => .int (-i)) := unI fun _ _ _ _ _ q => neg_int q
/-! ### bools among ints: n += (a < b) -/
end

/-! ### comparisons -/
/-- the scalars that == tells apart as data does -/
def scal : V → V → Bool
  | .non, .non => true | .non, .int _ => true | .int _, .non => true | .non, .bl _ => true | .bl _, .non => true | .non, .str _ => true | .str _, .non => true
  | .int _, .int _ => true | .bl _, .bl _ => true | .str _, .str _ => true | .byt _, .byt _ => true
  | .int _, .str _ => true | .str _, .int _ => true | .bl _, .str _ => true | .str _, .bl _ => true
  | _, _ => false
def rEq : R2 := fun x y H Q => scal x y = true ∧ Q (.bl (decide (x = y))) H
def rNe : R2 := fun x y H Q => scal x y = true ∧ Q (.bl (!decide (x = y))) H

theorem dec_int {i j : Int} : decide (V.int i = V.int j) = (i == j) := by
  rw [Bool.eq_iff_iff]
  simp
theorem dec_bl {i j : Bool} : decide (V.bl i = V.bl j) = (i == j) := by
  rw [Bool.eq_iff_iff]
  simp
theorem dec_str {i j : Str} : decide (V.str i = V.str j) = (i == j) := by
  rw [Bool.eq_iff_iff]
  simp
theorem dec_byt {i j : Array UInt8} : decide (V.byt i = V.byt j) = (i.toList == j.toList) := by
  rw [Bool.eq_iff_iff]
  cases i
  cases j
  simp

section
variable {X : Cx} {a b c : Expr} {ta tb tc : TE} {pos : Pos}
theorem fin_bl {pins : List (Addr × Obj)} {σ : St} {H : Hp} {s : Shared} {Q : VK} {k k' : Bool} (I : Inv X pins σ H s) (q : Q (.bl k) H) (e : k = k') : EP X pins σ Q (.bool k') s := by
  subst e
  exact ⟨.bl k, H, I, rfl, q⟩
theorem op_eq : OpR X (compareOp .Eq) rEq := by
  intro pins s σ H x y v u Q I rx ry h
  obtain ⟨hs, q⟩ := h
  cases x with
  | non =>
    cases rx
    cases y with
    | non => cases ry; exact PySem.EqNone.eq_none_none (fin_bl I q (by simp))
    | bl j => cases ry; exact PySem.EqNone.eq_none_bool (fin_bl I q (by simp))
    | int j => obtain ⟨t', rfl⟩ := ry; exact PySem.EqNone.eq_none_int (fin_bl I q (by simp))
    | str j => obtain ⟨t', rfl⟩ := ry; exact PySem.EqNone.eq_none_str (fin_bl I q (by simp))
    | _ => exact absurd (show false = true from hs) Bool.false_ne_true
  | bl i =>
    cases rx
    cases y with
    | non => cases ry; exact PySem.EqNone.eq_bool_none (fin_bl I q (by simp))
    | bl j => cases ry; exact eq_bool (fin_bl I q dec_bl)
    | str j => obtain ⟨t', rfl⟩ := ry; exact PySem.EqMixed.eq_bool_str (fin_bl I q (by simp))
    | _ => exact absurd (show false = true from hs) Bool.false_ne_true
  | int i =>
    obtain ⟨t, rfl⟩ := rx
    cases y with
    | non => cases ry; exact PySem.EqNone.eq_int_none (fin_bl I q (by simp))
    | int j => obtain ⟨t', rfl⟩ := ry; exact eq_int (fin_bl I q dec_int)
    | str j => obtain ⟨t', rfl⟩ := ry; exact PySem.EqMixed.eq_int_str (fin_bl I q (by simp))
    | _ => exact absurd (show false = true from hs) Bool.false_ne_true
  | str i =>
    obtain ⟨t, rfl⟩ := rx
    cases y with
    | non => cases ry; exact PySem.EqNone.eq_str_none (fin_bl I q (by simp))
    | bl j => cases ry; exact PySem.EqMixed.eq_str_bool (fin_bl I q (by simp))
    | int j => obtain ⟨t', rfl⟩ := ry; exact PySem.EqMixed.eq_str_int (fin_bl I q (by simp))
    | str j => obtain ⟨t', rfl⟩ := ry; exact eq_str (fin_bl I q dec_str)
    | _ => exact absurd (show false = true from hs) Bool.false_ne_true
  | byt i =>
    obtain ⟨t, rfl⟩ := rx
    cases y with
    | byt j => obtain ⟨t', rfl⟩ := ry; exact PySem.W.eq_bytes (fin_bl I q dec_byt)
    | _ => exact absurd (show false = true from hs) Bool.false_ne_true
  | _ => cases y <;> exact absurd (show false = true from hs) Bool.false_ne_true
theorem op_ne : OpR X (compareOp .NotEq) rNe := by
  intro pins s σ H x y v u Q I rx ry h
  obtain ⟨hs, q⟩ := h
  cases x with
  | non =>
    cases rx
    cases y with
    | non => cases ry; exact PySem.EqNone.ne_none_none (fin_bl I q (by simp))
    | bl j => cases ry; exact PySem.EqNone.ne_none_bool (fin_bl I q (by simp))
    | int j => obtain ⟨t', rfl⟩ := ry; exact PySem.EqNone.ne_none_int (fin_bl I q (by simp))
    | str j => obtain ⟨t', rfl⟩ := ry; exact PySem.EqNone.ne_none_str (fin_bl I q (by simp))
    | _ => exact absurd (show false = true from hs) Bool.false_ne_true
  | bl i =>
    cases rx
    cases y with
    | non => cases ry; exact PySem.EqNone.ne_bool_none (fin_bl I q (by simp))
    | bl j => cases ry; exact ne_bool (fin_bl I q (congrArg not dec_bl))
    | str j => obtain ⟨t', rfl⟩ := ry; exact PySem.EqMixed.ne_bool_str (fin_bl I q (by simp))
    | _ => exact absurd (show false = true from hs) Bool.false_ne_true
  | int i =>
    obtain ⟨t, rfl⟩ := rx
    cases y with
    | non => cases ry; exact PySem.EqNone.ne_int_none (fin_bl I q (by simp))
    | int j => obtain ⟨t', rfl⟩ := ry; exact ne_int (fin_bl I q (congrArg not dec_int))
    | str j => obtain ⟨t', rfl⟩ := ry; exact PySem.EqMixed.ne_int_str (fin_bl I q (by simp))
    | _ => exact absurd (show false = true from hs) Bool.false_ne_true
  | str i =>
    obtain ⟨t, rfl⟩ := rx
    cases y with
    | non => cases ry; exact PySem.EqNone.ne_str_none (fin_bl I q (by simp))
    | bl j => cases ry; exact PySem.EqMixed.ne_str_bool (fin_bl I q (by simp))
    | int j => obtain ⟨t', rfl⟩ := ry; exact PySem.EqMixed.ne_str_int (fin_bl I q (by simp))
    | str j => obtain ⟨t', rfl⟩ := ry; exact ne_str (fin_bl I q (congrArg not dec_str))
    | _ => exact absurd (show false = true from hs) Bool.false_ne_true
  | byt i =>
    obtain ⟨t, rfl⟩ := rx
    cases y with
    | byt j => obtain ⟨t', rfl⟩ := ry; exact PySem.W.ne_bytes (fin_bl I q (congrArg not dec_byt))
    | _ => exact absurd (show false = true from hs) Bool.false_ne_true
  | _ => cases y <;> exact absurd (show false = true from hs) Bool.false_ne_true

theorem op_lt : OpR X (compareOp .Lt) (rI0 fun i j => .bl (decide (i < j))) := opB0 fun _ _ _ _ _ _ _ q => lt_int q
theorem op_le : OpR X (compareOp .LtE) (rI0 fun i j => .bl (decide (i ≤ j))) := opB0 fun _ _ _ _ _ _ _ q => le_int q
theorem op_gt : OpR X (compareOp .Gt) (rI0 fun i j => .bl (decide (j < i))) := opB0 fun _ _ _ _ _ _ _ q => gt_int q
theorem op_ge : OpR X (compareOp .GtE) (rI0 fun i j => .bl (decide (j ≤ i))) := opB0 fun _ _ _ _ _ _ _ q => ge_int q
/-- two rules for one operation: by cases -/
theorem OpR.or {f : Value → Value → Sem Value} {r r' : R2} (h : OpR X f r) (h' : OpR X f r') : OpR X f (fun x y H Q => r x y H Q ∨ r' x y H Q) := by
  intro pins s σ H x y v u Q I rx ry q
  rcases q with q | q
  · exact h pins s σ H x y v u Q I rx ry q
  · exact h' pins s σ H x y v u Q I rx ry q

theorem nomark (b : Expr) {op : CmpOp} (h : op ≠ .In := by decide) (h2 : op ≠ .NotIn := by decide) : behindInMarks op b = false := by
  have e1 : (op == CmpOp.In) = false := by cases op <;> first | rfl | exact absurd rfl h
  have e2 : (op == CmpOp.NotIn) = false := by cases op <;> first | rfl | exact absurd rfl h2
  cases b <;> simp [behindInMarks, e1, e2]
/-- a reading of a value as a test -/
def tTest (t : TE) : TT := fun σ H Q => t σ H fun x H' => ∃ k, x = .bl k ∧ Q k H'
theorem pt_cmpR {op : CmpOp} {r : R2} (ho : OpR X (compareOp op) r) (ha : PE X a ta) (hb : PE X b tb) (hm : behindInMarks op b = false) : PT X (.Compare a [op] [b] pos) (tTest (tOp r ta tb)) := by
  intro pins s σ H Q I h
  refine wpAny_isTrue_Compare1 (thn (ha pins s σ H _ I h) fun v s1 ⟨x, H1, I1, r1, q1⟩ => thn (hb pins s1 σ H1 _ I1 q1) fun u s2 ⟨y, H2, I2, r2, q2⟩ =>
    thn (ho pins s2 σ H2 x y v u _ I2 r1 r2 q2) fun c s3 ⟨z, H3, I3, r3, k, e, q3⟩ => ?_) hm
  subst e
  cases r3
  exact wpAny_truthy_bool ⟨H3, I3, q3⟩
/-- a op1 b op2 c -/
def tChain (r r' : R2) (ta tb tc : TE) : TE := fun σ H Q => ta σ H fun x H1 => tb σ H1 fun y H2 => r x y H2 fun z H3 => ∃ k, z = .bl k ∧
  (if k = true then tc σ H3 fun w' H4 => r' y w' H4 Q else Q (.bl false) H3)
theorem pt_chain {op op' : CmpOp} {r r' : R2} (ho : OpR X (compareOp op) r) (ho' : OpR X (compareOp op') r') (ha : PE X a ta) (hb : PE X b tb) (hc : PE X c tc)
    (hm : lastMarks [op, op'] [b, c] = false := by with_unfolding_all rfl) : PT X (.Compare a [op, op'] [b, c] pos) (tTest (tChain r r' ta tb tc)) := by
  intro pins s σ H Q I h
  refine isTrue_chain (thn (ha pins s σ H _ I h) fun v s1 ⟨x, H1, I1, r1, q1⟩ => test_link (thn (hb pins s1 σ H1 _ I1 q1) fun u s2 ⟨y, H2, I2, r2, q2⟩ =>
    thn (ho pins s2 σ H2 x y v u _ I2 r1 r2 q2) fun d s3 ⟨z, H3, I3, r3, k, e, q3⟩ => ?_)) hm
  subst e
  cases r3
  refine wpAny_truthy_bool ?_
  cases k with
  | false =>
    obtain ⟨k', e', q'⟩ := q3
    cases e'
    exact ite_ff ⟨H3, I3, q'⟩
  | true =>
    refine ite_tt (test_last (thn (hc pins s3 σ H3 _ I3 q3) fun w' s4 ⟨z', H4, I4, r4, q4⟩ => thn (ho' pins s4 σ H4 y z' u w' _ I4 r2 r4 q4) fun d' s5 ⟨z2, H5, I5, r5, k2, e2, q5⟩ => ?_))
    subst e2
    cases r5
    exact wpAny_truthy_bool ⟨H5, I5, q5⟩

/-! ### truth -/
/-- a value's truth by the abstract heap -/
def TruV (K : PySem.W.Frag) (x : V) (H : Hp) (k : Bool) : Prop :=
  match x with
  | .non => k = false
  | .bl b => k = b
  | .int i => k = (i != 0)
  | .str y => y.length ≤ sizeLine ∧ k = ((y.length : Int) != 0)
  | .byt y => y.size ≤ sizeLine ∧ k = ((y.size : Int) != 0)
  | .ref p => (∃ xs, SqL K H p xs ∧ k = !xs.isEmpty) ∨ (∃ xs, SqT K H p xs ∧ k = !xs.isEmpty) ∨ ∃ kvs, H p = some (.dK kvs) ∧ k = !kvs.isEmpty
  | _ => False
theorem isEmpty_kv {κ : Type} {kvs : List (κ × V)} {vs : List (κ × Value)} (r : KV kvs vs) : (!vs.isEmpty) = !kvs.isEmpty := by
  cases r <;> rfl
theorem isEmpty_of {xs : List V} {its : List Value} (r : Vals xs its) : (!its.toArray.isEmpty) = !xs.isEmpty := by
  cases r <;> simp
theorem line63 : (sizeLine : Nat) < 2 ^ 63 := by rw [sizeLine_eq]; decide
theorem tru_ok : TruR X (fun x H Q => ∃ k, TruV X.K x H k ∧ Q k H) := by
  intro pins s σ H x v Q I rx h
  obtain ⟨k, e, q⟩ := h
  have hl := line63
  have hs : sizeLine = 16777216 := sizeLine_eq
  cases x with
  | non =>
    cases rx
    have e' : k = false := e
    subst e'
    exact truthy_none ⟨H, I, q⟩
  | bl b =>
    cases rx
    have e' : k = b := e
    subst e'
    exact wpAny_truthy_bool ⟨H, I, q⟩
  | int i =>
    obtain ⟨t, rfl⟩ := rx
    have e' : k = (i != 0) := e
    subst e'
    exact PySem.P.truthy_int ⟨H, I, q⟩
  | str y =>
    obtain ⟨t, rfl⟩ := rx
    obtain ⟨hy, e'⟩ : y.length ≤ sizeLine ∧ k = ((y.length : Int) != 0) := e
    subst e'
    exact PySem.P.truthy_str (by omega) ⟨H, I.tok _, q⟩
  | byt y =>
    obtain ⟨t, rfl⟩ := rx
    obtain ⟨hy, e'⟩ : y.size ≤ sizeLine ∧ k = ((y.size : Int) != 0) := e
    subst e'
    exact PySem.W.truthy_bytes (by omega) ⟨H, I.tok _, q⟩
  | ref p =>
    cases rx
    have e' : (∃ xs, SqL X.K H p xs ∧ k = !xs.isEmpty) ∨ (∃ xs, SqT X.K H p xs ∧ k = !xs.isEmpty) ∨ ∃ kvs, H p = some (.dK kvs) ∧ k = !kvs.isEmpty := e
    rcases e' with ⟨xs, hx, e'⟩ | ⟨xs, hx, e'⟩ | ⟨kvs, hx, e'⟩
    · subst e'
      obtain ⟨its, r, pl, hz⟩ := I.list hx
      have hlen := r.length
      exact wpAny_truthy_list pl.isList (by simp only [List.size_toArray]; omega) ⟨H, I.tok _, by rw [isEmpty_of r]; exact q⟩
    · subst e'
      obtain ⟨its, r, pl, hz⟩ := I.tuple hx
      have hlen := r.length
      exact truthy_tuple pl (by simp only [List.size_toArray]; omega) ⟨H, I.tok _, by rw [isEmpty_of r]; exact q⟩
    · subst e'
      obtain ⟨hz, hS, vs, r, m⟩ : kvs.length ≤ sizeLine ∧ (p == sysModules) = false ∧ ∃ vs, KV kvs vs ∧ s.heap.DictOf (mixKind X.prog X.w) p vs := I.hok p _ hx
      have hlen : kvs.length = vs.length := Paired.length r
      exact wpAny_truthy_dict hS m (by omega) ⟨H, I.tok _, by rw [isEmpty_kv r]; exact q⟩
  | _ => exact (show False from e).elim
/-- any expression whose test is its value's truth (a name, a call, a subscript, a field ..: he by fun _ => rfl) -/
theorem pt_truth (ha : PE X a ta) (he : ∀ whole, isTrue a X.env whole = (do let v ← whole; standAt a.pos; holding [v] (truthy v))) :
    PT X a (fun σ H Q => ta σ H fun x H' => ∃ k, TruV X.K x H' k ∧ Q k H') := by
  intro pins s σ H Q I h
  exact isTrue_plain (thn (ha pins s σ H _ I h) fun v s1 ⟨x, H1, I1, r1, q1⟩ => tru_ok pins s1 σ H1 x v Q I1 r1 q1) (he _)

/-! ### strs and bytes -/
/-! ### scalar builtins, by CallR -/
theorem vals1 {x : V} {us : List Value} (r : Vals [x] us) : ∃ u, us = [u] ∧ RelV x u := by
  cases r with
  | cons r1 r2 => cases r2; exact ⟨_, rfl, r1⟩
theorem vals2 {x y : V} {us : List Value} (r : Vals [x, y] us) : ∃ u w', us = [u, w'] ∧ RelV x u ∧ RelV y w' := by
  cases r with
  | cons r1 r2 =>
    cases r2 with
    | cons r3 r4 => cases r4; exact ⟨_, _, rfl, r1, r3⟩
theorem call_min2 (hc : X.calm = true) : CallR X (.builtin "min") (fun xs H Q => ∃ i j, xs = [.int i, .int j] ∧ Q (.int (if j < i then j else i)) H) := by
  intro pins s σ H xs us Q I r h
  obtain ⟨i, j, rfl, q⟩ := h
  obtain ⟨u, w', rfl, ⟨t, rfl⟩, ⟨t', rfl⟩⟩ := vals2 r
  refine min_two_ints (I.ok.hd hc) fun h' tk k => ⟨_, H, I.kept k, ?_, q⟩
  by_cases hj : j < i
  · rw [if_pos hj, if_pos hj]; exact ⟨_, rfl⟩
  · rw [if_neg hj, if_neg hj]; exact ⟨_, rfl⟩
/-- len of a str, a bytes, a list, a tuple -/
def LenV (K : PySem.W.Frag) (x : V) (H : Hp) (n : Nat) : Prop :=
  match x with
  | .str y => y.length ≤ sizeLine ∧ n = y.length
  | .byt y => y.size ≤ sizeLine ∧ n = y.size
  | .ref p => (∃ xs, SqL K H p xs ∧ n = xs.length) ∨ ∃ xs, SqT K H p xs ∧ n = xs.length
  | _ => False
theorem call_len : CallR X (.builtin "len") (fun xs H Q => ∃ x n, xs = [x] ∧ LenV X.K x H n ∧ Q (.int n) H) := by
  intro pins s σ H xs us Q I r h
  obtain ⟨x, n, rfl, e, q⟩ := h
  obtain ⟨u, rfl, rx⟩ := vals1 r
  have hl := line63
  have hs : sizeLine = 16777216 := sizeLine_eq
  cases x with
  | str y =>
    obtain ⟨t, rfl⟩ := rx
    obtain ⟨hy, e'⟩ : y.length ≤ sizeLine ∧ n = y.length := e
    subst e'
    exact len_str (by omega) ⟨.int _, H, I.tok _, ⟨_, rfl⟩, q⟩
  | byt y =>
    obtain ⟨t, rfl⟩ := rx
    obtain ⟨hy, e'⟩ : y.size ≤ sizeLine ∧ n = y.size := e
    subst e'
    exact PySem.W.len_bytes (by omega) ⟨.int _, H, I.tok _, ⟨_, rfl⟩, q⟩
  | ref p =>
    cases rx
    have e' : (∃ xs, SqL X.K H p xs ∧ n = xs.length) ∨ ∃ xs, SqT X.K H p xs ∧ n = xs.length := e
    rcases e' with ⟨xs, hx, e'⟩ | ⟨xs, hx, e'⟩
    · subst e'
      obtain ⟨its, r', pl, hz⟩ := I.list hx
      have hlen := r'.length
      exact Calls.call_len_list pl.isList (by simp only [List.size_toArray]; omega) ⟨.int xs.length, H, I.tok _, ⟨_, by simp only [List.size_toArray]; rw [hlen]⟩, q⟩
    · subst e'
      obtain ⟨its, r', pl, hz⟩ := I.tuple hx
      have hlen := r'.length
      exact len_tuple pl (by simp only [List.size_toArray]; omega) ⟨.int xs.length, H, I.tok _, ⟨_, by simp only [List.size_toArray]; rw [hlen]⟩, q⟩
  | _ => exact (show False from e).elim
end
end L2

namespace L2
open PySem PySem.Spec PyProof.Rows

/-! ### an instance, its attributes a map -/
structure ObjM (h : Heap) (x dx C : Addr) (mA : Str → Option Value) : Prop where
  obj : h.get? x = some (PySem.W.instObj C dx)
  ns : h.Ns1 dx mA
  ne : dx ≠ x

section
variable {prog : Program} {w : World} {A : Around} {E : Value → Shared → Prop} {s : Shared} {K : PySem.W.Frag} {x dx C f : Addr} {mA : Str → Option Value} {name : Str} {v : Value}

end

/-! ### the attributes as a list of pairs -/
section
variable {P : Program} {w : World} {H H' : Hp} {h h' : Heap} {a C dx : Addr} {fs fs' : List (Str × V)}
end

/-! ### what of the text a class must have -/
structure Cls (K : PySem.W.Frag) (C : Addr) : Prop where
  pg : PySem.W.plainGet K C Str.empty = true
  hd : PySem.W.hasDictIn K C = true
  po : PySem.W.plainOver K C = true
  sa : PySem.W.findIn K (.ref C) "__setattr__" = some (some (.builtin "object.__setattr__"))
theorem Cls.get {K : PySem.W.Frag} {C : Addr} (c : Cls K C) (f : Str) : PySem.W.plainGet K C f = true := c.pg
/-- a constant of the class -/
structure Con (K : PySem.W.Frag) (C : Addr) (f : Str) (v : V) (u : Value) : Prop where
  at_ : PySem.W.findIn K (.ref C) f = some (some u)
  rel : RelV v u
  get : PySem.W.specialIn K u "__get__" = some none
  cp : PySem.W.copiedNames.contains f = false
/-- a method: a plain def of the class or of one above it -/
structure Meth (K : PySem.W.Frag) (C : Addr) (m : Str) (f : Addr) : Prop where
  at_ : PySem.W.findIn K (.ref C) m = some (some (.ref f))
  fn : PySem.W.isFn K (.ref f) = true
  kp : PySem.W.keepIn K (.ref f) = true

section
variable {X : Cx} {pins : List (Addr × Obj)} {σ : St} {H : Hp} {s : Shared} {a C dx : Addr} {fs : List (Str × V)} {f : Str} {v : V} {A : Around} {E : Value → Shared → Prop}

/-- a new instance, tracked, without attributes -/
theorem Inv.made (I : Inv X pins σ H s) : Inv X pins σ (upd (upd H s.heap.objs.size (.own (s.heap.objs.size + 1))) (s.heap.objs.size + 1) (.ins C s.heap.objs.size []))
    { s with heap := (s.heap.push PySem.W.emptyDict).push (PySem.W.instObj C s.heap.objs.size) } := by
  have e1 : (s.heap.push PySem.W.emptyDict).get? s.heap.objs.size = some PySem.W.emptyDict := Heap.get?_push_size s.heap rfl
  have e2 : ((s.heap.push PySem.W.emptyDict).push (PySem.W.instObj C s.heap.objs.size)).get? (s.heap.objs.size + 1) = some (PySem.W.instObj C s.heap.objs.size) := by
    have := Heap.get?_push_size (s.heap.push PySem.W.emptyDict) (o := PySem.W.instObj C s.heap.objs.size) rfl
    rwa [Heap.size_push] at this
  have e3 : (s.heap.push PySem.W.emptyDict).Ns s.heap.objs.size (fun _ => none) := ⟨PySem.W.emptyDict, #[], _, e1, rfl, (fun e he => absurd he (by simp)), fun _ => rfl⟩
  have I1 := I.laid (a := s.heap.objs.size) (o := .own (s.heap.objs.size + 1)) (h' := s.heap.push PySem.W.emptyDict) (t' := s.toks) (fun b u q => Heap.get?_push_of_some _ q) (Nat.le_refl _) ⟨_, e1⟩
  refine I1.laid (a := s.heap.objs.size + 1) (o := .ins C s.heap.objs.size []) (t' := s.toks) (fun b u q => Heap.get?_push_of_some _ q) (Nat.le_of_eq (Heap.size_push _ _)) ?_
  have ne : s.heap.objs.size ≠ s.heap.objs.size + 1 := Nat.ne_of_lt (Nat.lt_succ_self _)
  refine ⟨by rw [upd_ne ne, upd_same], Nat.zero_le _, ne, e2, fun _ => none, (Heap.Ns1.of_empty e3).at fun o q => Heap.get?_push_of_some _ q, fun _ => True.intro, fun y hy => absurd rfl hy⟩

end

/-! ### readings and rules -/
section
variable {X : Cx} {o e value : Expr} {f : Str} {pos pos' tpos : Pos} {ta tv : TE}
end

/-! ### isinstance -/
section
variable {X : Cx} {pins : List (Addr × Obj)} {σ : St} {H : Hp} {s : Shared} {A : Around} {E : Value → Shared → Prop} {Q : Value → Shared → Prop} {c : Value} {b : Bool}
/-- the type of a value, as the fragment's deciders take it; for an instance its class -/
inductive TyOf (K : PySem.W.Frag) (H : Hp) : V → Value → Prop where
  | non : TyOf K H .non (.type "NoneType")
  | bl (x : Bool) : TyOf K H (.bl x) (.type "bool")
  | int (i : Int) : TyOf K H (.int i) (.type "int")
  | str (x : Str) : TyOf K H (.str x) (.type "str")
  | flt (x : UInt64) : TyOf K H (.flt x) (.type "float")
  | lst {a : Addr} {xs : List V} (e : H a = some (.lst xs)) : TyOf K H (.ref a) (.type "list")
  | frz {a : Addr} {o : Obj} {xs : List V} (e : H a = some (.frz o (.lst xs))) : TyOf K H (.ref a) (.type "list")
  | tup {a : Addr} {xs : List V} (e : H a = some (.tup xs)) : TyOf K H (.ref a) (.type "tuple")
  | dK {a : Addr} {kvs : List (Key × V)} (e : H a = some (.dK kvs)) : TyOf K H (.ref a) (.type "dict")
  | dT {a : Addr} {kvs : List (List Key × V)} (e : H a = some (.dT kvs)) : TyOf K H (.ref a) (.type "dict")
  | ins {a C dx : Addr} {fs : List (Str × V)} (e : H a = some (.ins C dx fs)) (cl : Cls K C) (ha : PySem.W.findIn K (.ref C) "__class__" = some (some (.builtin "object.__class__")))
      (hn : PySem.W.specialIn K (.builtin "object.__class__") "__get__" = some (some (.builtin "getset_descriptor.__get__"))) (htk : PySem.W.takesIn K (.builtin "object.__class__") = some true)
      (hm : PySem.W.mroIn K C (.type "object") = some true) : TyOf K H (.ref a) (.ref C)
end
end L2

namespace L2
open PySem PySem.Spec PyProof.Rows

/-! ### room -/
structure Room (k : Nat) (A : Around) : Prop where
  hd : A.handled = none
  dp : A.depth + 3 * k + 5 < recursionLimit
  un : A.units + 16 * k + 200 < cLine
theorem Room.mono {j k : Nat} {A : Around} (r : Room k A) (h : j ≤ k) : Room j A := ⟨r.hd, by have := r.dp; omega, by have := r.un; omega⟩
theorem Room.deeper {k : Nat} {A : Around} (r : Room (k + 1) A) (env : Env) : Room k (A.deeper env) :=
  ⟨r.hd, by have := r.dp; show A.depth + 1 + 3 * k + 5 < _; omega, by have := r.un; show A.units + 3 + 16 * k + 200 < _; omega⟩
theorem Room.in1 {k : Nat} {A : Around} (r : Room (k + 1) A) : Room k A.in1 :=
  ⟨r.hd, by have := r.dp; show A.depth + 3 * k + 5 < _; omega, by have := r.un; show A.units + 1 + 16 * k + 200 < _; omega⟩
theorem Room.depth {k : Nat} {A : Around} (r : Room k A) : A.depth < recursionLimit := by have := r.dp; omega
theorem Room.units {k : Nat} {A : Around} (r : Room k A) : A.units + 64 < cLine := by have := r.un; omega
/-! ### argument lists and displays -/
def tNil : TA := fun _ H Q => Q [] H
def tCons (ta : TE) (tr : TA) : TA := fun σ H Q => ta σ H fun x H1 => tr σ H1 fun xs H2 => Q (x :: xs) H2
section
variable {X : Cx} {e : Expr} {es : List Expr} {te : TE} {t : TA} {pos : Pos}
theorem pa_nil : PA X [] tNil := fun _ _ _ _ H Q I h => Calls.spliced_nil ⟨[], H, I, .nil, h⟩
theorem pa_cons (ha : PE X e te) (hr : PA X es t) (hs : starEach (e :: es) X.env = (false, eval e X.env) :: starEach es X.env := by rfl) : PA X (e :: es) (tCons te t) := by
  intro pos pins s σ H Q I h
  rw [hs]
  show wpAny _ _ (spliced ((false, eval e X.env) :: backTo pos (starEach es X.env))) _ _ s
  refine Calls.spliced_cons (thn (ha pins s σ H _ I h) fun u s1 ⟨x, H1, I1, r1, q1⟩ => ?_)
  exact thn (hr pos pins s1 σ H1 _ I1 q1) fun us s2 ⟨xs, H2, I2, r2, q2⟩ => ⟨x :: xs, H2, I2, .cons r1 r2, q2⟩

def tLst (t : TA) : TE := fun σ H Q => t σ H fun xs H1 => xs.length ≤ sizeLine ∧ ∀ p, H1 p = none → Q (.ref p) (upd H1 p (.lst xs))
theorem pe_lst (h : PA X es t) : PE X (.List es pos) (tLst t) := by
  intro pins s σ H Q I hq
  refine wpAny_List_spliced (thn (h pos pins s σ H _ I hq) fun us s1 ⟨xs, H1, I1, r, z, q⟩ => ⟨by rw [← r.length]; exact z, ?_⟩)
  have hf : H1 s1.heap.objs.size = none := I1.hok.fresh (Nat.le_refl _)
  refine ⟨.ref s1.heap.objs.size, upd H1 s1.heap.objs.size (.lst xs), I1.laid (t' := s1.toks) (fun b u e => Heap.get?_push_of_some _ e) (Nat.le_refl _) ?_, rfl, q _ hf⟩
  exact ⟨z, us, 0, r, Heap.get?_push_size _ rfl⟩
end

/-! ### what a def promises -/
/-- a def's promise: the bound arguments in the parameters' order, the heap, the wanted end, the wanted exception -/
abbrev Sp := List V → Hp → VK → XK → Prop
/-- how an exception lies behind a call (file 08 gives it): the callers' frames, abstract heap and state ahead of the call, the wish, the exception, the state -/
abbrev CXT := List Env → Hp → Shared → XK → Value → Shared → Prop

/-- the state at a call -/
structure Env0 (P : Program) (w : World) (K : PySem.W.Frag) (mg : Str → Option Value) (base : Heap) (A : Around) (outer : List Env) (s : Shared) (H : Hp) : Prop where
  frames : A.frames = some outer
  mod : Mod K mg base
  bs : ∀ b o, base.get? b = some o → s.heap.get? b = some o ∧ H b = none
  bsz : base.objs.size ≤ s.heap.objs.size
  funs : s.heap.FunFrames base outer
  frf : ∀ b ∈ frs outer, H b = none
  hok : HOk P w H s.heap
  bare : AllBare s.gens
/-- a call's end -/
def CE (outer : List Env) (P : Program) (w : World) (H : Hp) (s : Shared) (Q : VK) (u : Value) (s' : Shared) : Prop :=
  ∃ v H', s'.os = s.os ∧ AllBare s'.gens ∧ Un (frs outer) [] H H' s.heap s'.heap ∧ HOk P w H' s'.heap ∧ RelV v u ∧ Q v H'
def CR (CX : CXT) (outer : List Env) (P : Program) (w : World) (H : Hp) (s : Shared) (Q : VK) (E : XK) (r : Result) (s' : Shared) : Prop :=
  match r with
  | .ok (.ret u) => CE outer P w H s Q u s'
  | .ok _ => False
  | .error e => CX outer H s E e s'
structure FnOk (P : Program) (w : World) (K : PySem.W.Frag) (mg : Str → Option Value) (base : Heap) (CX : CXT) (k : Nat) (f : Addr) (fd : FuncData) (ps : List Str) (sp : Sp) : Prop where
  len : ∀ vs H Q E, sp vs H Q E → vs.length = ps.length
  run : ∀ (A : Around) (outer : List Env) (s : Shared) (H : Hp) (args : Args) (us : List Value) (vs : List V) (Q : VK) (E : XK), Room k A → Env0 P w K mg base A outer s H → BindsTo s fd args (ps.zip us) → Vals vs us → sp vs H Q E →
    codeAny (model P w) A (.call (.ref f) args) (CR CX outer P w H s Q E) s
theorem FnOk.mono {P : Program} {w : World} {K : PySem.W.Frag} {mg : Str → Option Value} {base : Heap} {CX : CXT} {j k : Nat} {f : Addr} {fd : FuncData} {ps : List Str} {sp : Sp} (F : FnOk P w K mg base CX j f fd ps sp) (h : j ≤ k) :
    FnOk P w K mg base CX k f fd ps sp := ⟨F.len, fun A outer s H args us vs Q E hr => F.run A outer s H args us vs Q E (hr.mono h)⟩
/-- a weaker promise -/
theorem FnOk.imp {P : Program} {w : World} {K : PySem.W.Frag} {mg : Str → Option Value} {base : Heap} {CX : CXT} {k : Nat} {f : Addr} {fd : FuncData} {ps : List Str} {sp sp' : Sp} (F : FnOk P w K mg base CX k f fd ps sp)
    (h : ∀ vs H Q E, sp' vs H Q E → sp vs H Q E) : FnOk P w K mg base CX k f fd ps sp' :=
  ⟨fun vs H Q E q => F.len vs H Q E (h _ _ _ _ q), fun A outer s H args us vs Q E hr he hb hv hs => F.run A outer s H args us vs Q E hr he hb hv (h _ _ _ _ hs)⟩

theorem Env0.in1 {P : Program} {w : World} {K : PySem.W.Frag} {mg : Str → Option Value} {base : Heap} {A : Around} {outer : List Env} {s : Shared} {H : Hp} (e : Env0 P w K mg base A outer s H) :
    Env0 P w K mg base A.in1 outer s H := ⟨e.frames, e.mod, e.bs, e.bsz, e.funs, e.frf, e.hok, e.bare⟩

section
variable {X : Cx} {pins : List (Addr × Obj)} {σ : St} {H : Hp} {s s' : Shared}
/-- from a body: what a callee wants -/
theorem Inv.env0 (I : Inv X pins σ H s) : Env0 X.prog X.w X.K X.mg X.base X.A X.stack s H :=
  ⟨I.ok.frames, I.ok.mod, I.bs, Nat.le_trans I.ok.bsz I.sz, I.stack, I.stkFree, I.hok, I.bare⟩
/-- behind a call -/
theorem Inv.after {Q : VK} {u : Value} (I : Inv X pins σ H s) (h : CE X.stack X.prog X.w H s Q u s') : EP X pins σ Q u s' := by
  obtain ⟨v, H', os, bare, un, hok, r, q⟩ := h
  obtain ⟨hh, g, d, t, os'⟩ := s'
  obtain rfl : os' = s.os := os
  exact ⟨v, H', I.call (h' := hh) (g' := g) (d' := d) (t' := t) (ch := []) un hok bare (fun b z => absurd z (by simp)), r, q⟩
end

/-! ### calls -/
/-- f(..): the written arguments, then the defaults dvs; E: what is wanted of an exception -/
def tCall (sp : Sp) (dvs : List V) (E : XK) (t : TA) : TE := fun σ H Q => t σ H fun vs H1 => sp (vs ++ dvs) H1 Q E
/-- how the parameters are bound: us the positional arguments, kw the keywords' values by name, ds the defaults that fill up -/
def Binds (K : PySem.W.Frag) (fd : FuncData) (ps : List Str) (ds : List Value) : Prop :=
  ∀ (s : Shared) (us : List Value), K.In s.heap → (us ++ ds).length = ps.length → BindsTo s fd ⟨us, []⟩ (ps.zip (us ++ ds))
/-- every parameter is given -/
theorem Binds.all {K : PySem.W.Frag} {fd : FuncData} {ps : List Str} (h : ∀ us : List Value, us.length = ps.length → bindArgs fd ⟨us, []⟩ = pure (ps.zip us)) : Binds K fd ps [] := fun s us _ hl => by
  rw [List.append_nil] at hl ⊢
  exact .of_eq (h us hl)

/-- an exception of a callee reaches what this body wants of exceptions -/
def Passes (CX : CXT) (X : Cx) (E : XK) : Prop := ∀ (pins : List (Addr × Obj)) (σ : St) (H : Hp) (s : Shared) (e : Value) (s' : Shared), Inv X pins σ H s → CX X.stack H s E e s' → X.xe e s'

section
variable {X : Cx} {CX : CXT} {k : Nat} {f C : Addr} {fd : FuncData} {ps : List Str} {sp : Sp} {dvs : List V} {ds : List Value} {E : XK} {x m : Str} {p pos apos : Pos} {e o : Expr} {es : List Expr} {ta : TE} {t : TA}

/-- the callee runs -/
theorem run_fn {pins : List (Addr × Obj)} {σ : St} {H : Hp} {s : Shared} {Q : VK} {us : List Value} {vs : List V} (F : FnOk X.prog X.w X.K X.mg X.base CX k f fd ps sp) (hr : Room k X.A) (hb : Binds X.K fd ps ds) (hd : Vals dvs ds) (hx : Passes CX X E)
    (I : Inv X pins σ H s) (r : Vals vs us) (h : sp (vs ++ dvs) H Q E) : wpAny (model X.prog X.w) X.A (call (.ref f) us) (EP X pins σ Q) X.xe s := by
  have r2 : Vals (vs ++ dvs) (us ++ ds) := r.append hd
  have hl : (us ++ ds).length = ps.length := by rw [← r2.length]; exact F.len _ _ _ _ h
  refine wpAny_call (codeAny_mono (F.run X.A X.stack s H ⟨us, []⟩ (us ++ ds) (vs ++ dvs) Q E hr I.env0 (hb s us I.kIn hl) r2 h) fun r s' hq => ?_)
  cases r with
  | error e => exact hx pins σ H s e s' I hq
  | ok fl =>
    cases fl with
    | ret u => exact I.after hq
    | next => exact False.elim hq
    | brk => exact False.elim hq
    | cont => exact False.elim hq

theorem pe_call (F : FnOk X.prog X.w X.K X.mg X.base CX k f fd ps sp) (hr : Room k X.A) (hg : Gl X x) (hm : X.mg x = some (.ref f)) (hk : PySem.W.keepIn X.K (.ref f) = true) (hb : Binds X.K fd ps ds) (hd : Vals dvs ds) (hx : Passes CX X E)
    (ha : PA X (e :: es) t) (hdb : (x == ("__debug__" : Str)) = false := by decide) (he : starEach (e :: es) X.env = (false, eval e X.env) :: starEach es X.env := by rfl) (hpl : (backTo pos (starEach es X.env)).any (·.1) = false := by rfl) :
    PE X (.Call (.Name x p) (e :: es) [] pos) (tCall sp dvs E t) := by
  intro pins s σ H Q I h
  refine wpAny_Call_Name_kw (ld_glob I hg hm ?_ hdb)
  refine PySem.W.callWith_K (h₀ := X.base) I.ok.mod.kin hk (thn (ha pos pins s σ H _ I h) fun us s1 ⟨vs, H1, I1, r, q⟩ => ⟨I1.kIn, ?_⟩) he hpl
  exact run_fn F hr hb hd hx I1 r q
/-- what a class must have to be made -/
structure Mk (K : PySem.W.Frag) (C f : Addr) : Prop where
  makes : PySem.W.makesIn K C = true
  init : PySem.W.findIn K (.ref C) "__init__" = some (some (.ref f))
  fn : PySem.W.isFn K (.ref f) = true
  kp : PySem.W.keepIn K (.ref C) = true

end

/-! ### keywords -/
section
variable {X : Cx} {CX : CXT} {k : Nat} {f C : Addr} {fd : FuncData} {ps ks : List Str} {sp : Sp} {E : XK} {x m : Str} {p pos apos kpos : Pos} {e o : Expr} {es : List Expr} {kws : List Keyword} {te ta : TE} {t tk : TA} {nm : Option Str}
/-- how a call with keywords binds: g puts the positional values us and the keywords' values ws (names ks) in the parameters' order, defaults among them -/
structure KBinds (K : PySem.W.Frag) (fd : FuncData) (ps ks : List Str) (g : List Value → List Value → List Value) (gV : List V → List V → List V) : Prop where
  to : ∀ (s : Shared) (us ws : List Value), K.In s.heap → (g us ws).length = ps.length → BindsTo s fd ⟨us, ks.zip ws⟩ (ps.zip (g us ws))
  rel : ∀ {vs : List V} {us : List Value} {zs : List V} {ws : List Value}, Vals vs us → Vals zs ws → Vals (gV vs zs) (g us ws)
variable {g : List Value → List Value → List Value} {gV : List V → List V → List V}
end

/-! ### a def's body keeps its promise -/
/-- names: the parameters first -/
structure FnScope (N P : List Str) (sc : Scope) : Prop where
  kind : sc.kind = .function
  co : sc.isCoroutine = false
  gen : sc.isGenerator = false
  nd : N.Nodup
  pre : N.take P.length = P
  par : ∀ x ∈ P, sc.names.lookup x = some .local ∨ sc.names.lookup x = some .cell
  nofree : ∀ y ∈ sc.names, y.2 ≠ .free

theorem bindL_out {kindOf : Str → Option NameKind} {x : Str} : ∀ {binds : List (Str × Value)} {m : Str → Option Value}, (∀ v, (x, v) ∉ binds) → bindL kindOf binds m x = m x
  | [], _, _ => rfl
  | (n, v) :: r, m, h => by
    unfold bindL
    rw [bindL_out fun w hw => h w (List.mem_cons_of_mem _ hw)]
    split
    · have : x ≠ n := by rintro rfl; exact h v List.mem_cons_self
      simp [this]
    · rfl
theorem bindC_out {kindOf : Str → Option NameKind} {x : Str} : ∀ {binds : List (Str × Value)} {m : Str → Option Value}, (∀ v, (x, v) ∉ binds) → bindC kindOf binds m x = m x
  | [], _, _ => rfl
  | (n, v) :: r, m, h => by
    unfold bindC
    rw [bindC_out fun w hw => h w (List.mem_cons_of_mem _ hw)]
    split
    · rfl
    · have : x ≠ n := by rintro rfl; exact h v List.mem_cons_self
      simp [this]
theorem bindL_get {kindOf : Str → Option NameKind} {x : Str} {v : Value} : ∀ {P : List Str} {vs : List Value} {i : Nat} {m : Str → Option Value}, P.Nodup → P[i]? = some x → vs[i]? = some v → kindOf x = some .local →
    bindL kindOf (P.zip vs) m x = some v
  | [], _, _, _, _, h, _, _ => by simp at h
  | _ :: _, [], _, _, _, _, h, _ => by simp at h
  | p :: P, w :: vs, 0, m, nd, h1, h2, hk => by
    simp at h1 h2; subst h1; subst h2
    show bindL kindOf ((p, w) :: P.zip vs) m p = _
    unfold bindL
    rw [bindL_out fun v hv => (List.nodup_cons.mp nd).1 (List.of_mem_zip hv).1, if_pos hk]
    simp
  | p :: P, w :: vs, i + 1, m, nd, h1, h2, hk => by
    show bindL kindOf ((p, w) :: P.zip vs) m x = _
    unfold bindL
    exact bindL_get (i := i) (List.nodup_cons.mp nd).2 (by simpa using h1) (by simpa using h2) hk
theorem bindC_get {kindOf : Str → Option NameKind} {x : Str} {v : Value} : ∀ {P : List Str} {vs : List Value} {i : Nat} {m : Str → Option Value}, P.Nodup → P[i]? = some x → vs[i]? = some v → kindOf x ≠ some .local →
    bindC kindOf (P.zip vs) m x = some v
  | [], _, _, _, _, h, _, _ => by simp at h
  | _ :: _, [], _, _, _, _, h, _ => by simp at h
  | p :: P, w :: vs, 0, m, nd, h1, h2, hk => by
    simp at h1 h2; subst h1; subst h2
    show bindC kindOf ((p, w) :: P.zip vs) m p = _
    unfold bindC
    rw [bindC_out fun v hv => (List.nodup_cons.mp nd).1 (List.of_mem_zip hv).1, if_neg hk]
    simp
  | p :: P, w :: vs, i + 1, m, nd, h1, h2, hk => by
    show bindC kindOf ((p, w) :: P.zip vs) m x = _
    unfold bindC
    exact bindC_get (i := i) (List.nodup_cons.mp nd).2 (by simpa using h1) (by simpa using h2) hk

/-- the names' values at the entry -/
def start (N : List Str) (vs : List V) : St := vs.map some ++ List.replicate (N.length - vs.length) none

/-- the context of a def's body, at its entry; an exception leaves the frame, then lies as CX says -/
def cxOf (CX : CXT) (P : Program) (w : World) (K : PySem.W.Frag) (mg : Str → Option Value) (base : Heap) (N : List Str) (qual : Str) (scope : Scope) (f : Addr) (cd : Value) (A : Around) (outer : List Env) (s : Shared) (H : Hp) (E : XK) : Cx where
  prog := P
  w := w
  K := K
  mg := mg
  base := base
  A := A.deeper (envOfC qual scope s.heap.objs.size f cd)
  N := N
  s₀ := s
  H₀ := H
  env := envOfC qual scope s.heap.objs.size f cd
  outer := outer
  stack := envOfC qual scope s.heap.objs.size f cd :: outer
  ex := []
  calm := true
  fn := fun _ => true
  pn := []
  xe := fun e s' => wpAny (model P w) (A.deeper (envOfC qual scope s.heap.objs.size f cd)) (leaving (envOfC qual scope s.heap.objs.size f cd) e) (fun _ s'' => CX outer H s E e s'') (fun e' s'' => CX outer H s E e' s'') s'

theorem cell_has {sc : Scope} {n : Nat} {x : Str} (h : sc.names.lookup x = some .cell) : ∃ c, (cellsFrom n sc.names []).lookup x = some c := by
  have q := PySem.W.cellsFrom_some sc.names n [] (.inl h)
  exact Option.isSome_iff_exists.mp q

theorem inv_start {CX : CXT} {P : Program} {w : World} {K : PySem.W.Frag} {mg : Str → Option Value} {base : Heap} {N ps : List Str} {qual : Str} {scope : Scope} {f : Addr} {cd : Value} {A : Around} {outer : List Env} {s s1 : Shared} {H : Hp} {E : XK} {us : List Value} {vs : List V}
    (S : FnScope N ps scope) (hd : A.handled = none) (e0 : Env0 P w K mg base A outer s H) (hl : vs.length = ps.length) (r : Vals vs us)
    (x : InCallC s s.heap.objs.size (bindL (envOfC qual scope s.heap.objs.size f cd).kindOf (ps.zip us) fun _ => none) (cellsFrom (s.heap.objs.size + 1) scope.names []) (bindC (envOfC qual scope s.heap.objs.size f cd).kindOf (ps.zip us) fun _ => none) s1) :
    Inv (cxOf CX P w K mg base N qual scope f cd A outer s H E) [] (start N vs) H s1 := by
  have hpl : ps.length ≤ N.length := by have := congrArg List.length S.pre; rw [List.length_take] at this; omega
  obtain ⟨h1, tk, rfl, hk⟩ := x.done
  have noA : ∀ b : Addr, b ∉ (cxOf CX P w K mg base N qual scope f cd A outer s H E).ex := fun b z => absurd (show b ∈ ([] : List Addr) from z) (by simp)
  refine ⟨⟨e0.mod, S.kind, rfl, rfl, Nat.le_refl _, fun y z c h1 h2 => ?_, fun y hy => ?_, fun y c _ h => ?_, fun _ => hd, Around.frames_deeper e0.frames, .inr ⟨rfl, rfl⟩, fun b z => absurd z (noA b), e0.bs, e0.bsz, fun b _ _ => noA b, fun b z => absurd z (noA b), e0.funs, e0.frf⟩,
    rfl, e0.bare, Un.kept hk, ⟨_, x.toInCall.ns, fun i y v h1 h2 h3 => ?_⟩, fun y c h => ⟨_, x.cell y c h⟩, e0.hok.fresh (Nat.le_refl _), fun y c h => ?_, fun p hp => absurd (show p ∈ ([] : List (Addr × Obj)) from hp) (by simp), e0.hok.kept hk, ?_⟩
  · exact name_of_addr x.apart (PySem.mem_of_lookup h1) (PySem.mem_of_lookup h2)
  · have hy : scope.names.lookup y = some .cell ∨ scope.names.lookup y = some .free := hy
    rcases hy with hy | hy
    · exact cell_has hy
    · exact absurd rfl (S.nofree _ (PySem.mem_of_lookup hy))
  · exact Nat.le_of_lt (x.above y c (PySem.mem_of_lookup h))
  · have hi : i < vs.length := by
      unfold start at h2
      by_cases hi : i < vs.length
      · exact hi
      · rw [List.getElem?_append_right (by simpa using hi)] at h2
        rw [List.getElem?_replicate] at h2
        split at h2 <;> cases h2
    have ha : vs[i]? = some v := by
      unfold start at h2
      rw [List.getElem?_append_left (by simpa using hi), List.getElem?_map] at h2
      cases e : vs[i]? with
      | none => rw [e] at h2; cases h2
      | some a => rw [e] at h2; cases h2; rfl
    obtain ⟨u, hu, rv⟩ := r.get ha
    have hp : ps[i]? = some y := by
      rw [← S.pre, List.getElem?_take_of_lt (by omega)]; exact h1
    have ndP : ps.Nodup := by rw [← S.pre]; exact S.nd.sublist (List.take_sublist _ _)
    refine ⟨u, rv, ?_⟩
    rcases S.par y (List.mem_of_getElem? hp) with k | k
    · exact .inl ⟨k, bindL_get ndP hp hu k⟩
    · obtain ⟨c, e⟩ := cell_has (n := s.heap.objs.size + 1) k
      refine .inr ⟨.inl k, c, e, ?_⟩
      have q := x.cell y c e
      rw [bindC_get ndP hp hu (by show scope.names.lookup y ≠ _; rw [k]; decide)] at q
      exact q
  · exact e0.hok.fresh (Nat.le_of_lt (x.above y c (PySem.mem_of_lookup h)))
  · unfold start
    show _ = N.length
    rw [List.length_append, List.length_map, List.length_replicate]
    omega

/-- THE RULE: a def (or a method) of the text, by its body. The body's reading t is chosen for each entry; it is run at the parameters' values -/
theorem fn_of {CX : CXT} {P : Program} {w : World} {K : PySem.W.Frag} {mg : Str → Option Value} {base : Heap} {k : Nat} {f : Addr} {name qual : Str} {params : Arguments} {body : List Stmt} {scope : Scope} {dV kV doc pm cdv ct oc : Value} {an od : Option Addr}
    {osl : Array (Option Value)} {N ps : List Str} {sp : Sp} (lk : K.lookup f = some ⟨oc, od, .func (PySem.W.fnOf name qual params body scope dV kV doc pm an cdv ct), osl⟩) (hcd : PySem.W.codeIn K cdv qual = true) (S : FnScope N ps scope)
    (len : ∀ vs H Q E, sp vs H Q E → vs.length = ps.length)
    (hbody : ∀ (A : Around) (outer : List Env) (s : Shared) (H : Hp) (vs : List V) (Q : VK) (E : XK), Room k (A.deeper (envOfC qual scope s.heap.objs.size f cdv)) → sp vs H Q E →
      ∃ t, PSs (cxOf CX P w K mg base N qual scope f cdv A outer s H E) body t ∧ t { nx := fun _ H' => Q .non H', rt := Q } (start N vs) H) :
    FnOk P w K mg base CX (k + 1) f (PySem.W.fnOf name qual params body scope dV kV doc pm an cdv ct) ps sp := by
  refine ⟨len, fun A outer s H args us vs Q E hr e0 hb r hsp => ?_⟩
  have hl := len _ _ _ _ hsp
  have KX : K.In s.heap := e0.mod.kin.keeps fun b o e => (e0.bs b o e).1
  have lim : s.heap.NoLimit := e0.mod.nolimit.keeps fun b o e => (e0.bs b o e).1
  have hkind : ∀ y ∈ ps.zip us, scope.names.lookup y.1 = some .local ∨ (scope.names.lookup y.1 = some .cell ∧ ((cellsFrom (s.heap.objs.size + 1) scope.names []).lookup y.1).isSome = true) := fun ⟨n, v⟩ hy => by
    rcases S.par n (List.of_mem_zip hy).1 with q | q
    · exact .inl q
    · exact .inr ⟨q, PySem.W.cellsFrom_some _ _ _ (.inl q)⟩
  refine codeAny_call_function hr.depth (KX _ _ lk) rfl S.co S.gen rfl (PySem.W.codeRec_of KX hcd) (hb _ _ _ _ ?_)
  refine wpAny_newFunctionEnv_cells S.kind hkind fun env he s1 x => ?_
  subst he
  refine ⟨lim.keeps x.toInCall.keep, codeAny_func ?_⟩
  obtain ⟨t, ht, hq⟩ := hbody A outer s H vs Q E (hr.deeper _) hsp
  have I : Inv (cxOf CX P w K mg base N qual scope f cdv A outer s H E) [] (start N vs) H s1 := inv_start S hr.hd e0 hl r x
  refine wpAny_mono (ht [] s1 (start N vs) H _ I hq) (fun fl s' hs => ?_) fun e s' hs => hs
  have fin : ∀ {σ' : St} {H' : Hp} {v : V} {u : Value}, Inv (cxOf CX P w K mg base N qual scope f cdv A outer s H E) [] σ' H' s' → RelV v u → Q v H' → CE outer P w H s Q u s' :=
    fun {σ' H' v u} J rv q => ⟨v, H', J.os, J.bare, J.base, J.hok, rv, q⟩
  cases fl with
  | ret u =>
    obtain ⟨v, σ', H', J, rv, q⟩ := hs
    exact fin J rv q
  | next =>
    obtain ⟨σ', H', J, q⟩ := hs
    exact fin (v := V.non) (u := Value.none) J rfl q
  | brk =>
    obtain ⟨_, _, _, q⟩ := hs
    exact False.elim q
  | cont =>
    obtain ⟨_, _, _, q⟩ := hs
    exact False.elim q
end L2

namespace L2
open PySem PySem.Spec PyProof.Rows
section
variable {X : Cx} {x : Str} {p pos : Pos} {e : Expr} {es : List Expr} {t : TA} {id T : String} {r : List V → Hp → VK → Prop}

def tCB (r : List V → Hp → VK → Prop) (t : TA) : TE := fun σ H Q => t σ H fun vs H1 => r vs H1 Q
/-- f(e, ..), f a built-in function -/
theorem pe_callB (hc : CallR X (.builtin id) r) (hg : Gl X x) (hm : X.mg x = none) (hv : bootBuiltins x = some (.builtin id)) (ha : PA X (e :: es) t) (hn : x ≠ "__name__" := by decide) (hdb : (x == ("__debug__" : Str)) = false := by decide)
    (he : starEach (e :: es) X.env = (false, eval e X.env) :: starEach es X.env := by rfl) (hpl : (backTo pos (starEach es X.env)).any (·.1) = false := by rfl) : PE X (.Call (.Name x p) (e :: es) [] pos) (tCB r t) := by
  intro pins s σ H Q I h
  refine wpAny_Call_Name_kw (ld_blt I hg hm hv ?_ hn hdb)
  exact PyProof.Rows.callWith_builtin1 (thn (ha pos pins s σ H _ I h) fun us s1 ⟨vs, H1, I1, r1, q1⟩ => hc pins s1 σ H1 vs us Q I1 r1 q1) he hpl
/-- T(e, ..), T a built-in type -/
theorem pe_callTy (hc : CallR X (.type T) r) (hg : Gl X x) (hm : X.mg x = none) (hv : bootBuiltins x = some (.type T)) (ha : PA X (e :: es) t) (hn : x ≠ "__name__" := by decide) (hdb : (x == ("__debug__" : Str)) = false := by decide)
    (he : starEach (e :: es) X.env = (false, eval e X.env) :: starEach es X.env := by rfl) (hpl : (backTo pos (starEach es X.env)).any (·.1) = false := by rfl) : PE X (.Call (.Name x p) (e :: es) [] pos) (tCB r t) := by
  intro pins s σ H Q I h
  refine wpAny_Call_Name_kw (ld_blt I hg hm hv ?_ hn hdb)
  exact PyProof.Rows.callWith_type1 (thn (ha pos pins s σ H _ I h) fun us s1 ⟨vs, H1, I1, r1, q1⟩ => hc pins s1 σ H1 vs us Q I1 r1 q1) he hpl
end
end L2

namespace HT
open PySem PyProof.Rows

section
open PySem.SeqAt
open PySem.AutoSeq1 (wpAny_loadPart')
open PySem.MeetsSeq PySem.MeetsSeq2 PySem.MeetsSeq3

end

section
variable {prog : Program} {w : World} {A : Around} {E : Value → Shared → Prop} {s : Shared}

/-! ### t[a:b], not the whole -/
/-- a slice's bound as a place among n (d where it is left out) -/
def sIx (n d : Nat) : Option Int → Nat
  | none => d
  | some v => if v < 0 then (v + (n : Int)).toNat else min v.toNat n
theorem sIx_none (n d : Nat) : sIx n d none = d := rfl
theorem sIx_nat (n d k : Nat) : sIx n d (some (k : Int)) = min k n := by
  show (if (k : Int) < 0 then ((k : Int) + (n : Int)).toNat else min (k : Int).toNat n) = min k n
  rw [if_neg (by omega), Int.toNat_natCast]
end
end HT

namespace L2
open PySem PySem.Spec PyProof.Rows

/-! ### the parts of a slice -/
abbrev TO := St → Hp → (Option Int → Hp → Prop) → Prop
/-- a slice's part (left out, or an int) -/
def PO (X : Cx) (e : Option Expr) (t : TO) : Prop :=
  ∀ (pins : List (Addr × Obj)) (s : Shared) (σ : St) (H : Hp) (Q : Option Int → Hp → Prop), Inv X pins σ H s → t σ H Q →
    wpAny (model X.prog X.w) X.A (evalPart e X.env) (fun u s' => ∃ o H', Inv X pins σ H' s' ∧ IsPart u o ∧ Q o H') X.xe s
def tNoPart : TO := fun _ H Q => Q none H
def tPart (t : TE) : TO := fun σ H Q => t σ H fun x H1 => ∃ i, x = .int i ∧ Q (some i) H1

section
variable {X : Cx} {e : Expr} {te : TE} {lo hi : Option Expr} {tl th : TO} {pos p2 : Pos}

theorem po_none : PO X none tNoPart := by
  intro pins s σ H Q I h
  rw [evalPart_none]
  exact wpAny_pure ⟨none, H, I, .none, h⟩
theorem po_some (h : PE X e te) : PO X (some e) (tPart te) := by
  intro pins s σ H Q I hw
  rw [evalPart_some]
  refine thn (h pins s σ H _ I hw) fun u s1 ⟨x, H1, I1, r1, q1⟩ => ?_
  obtain ⟨i, rfl, q⟩ := q1
  obtain ⟨t, rfl⟩ := r1
  exact ⟨some i, H1, I1, .int i t, q⟩

/-- what a slice of a value is, by values: the slice object stands at sl -/
def SlR (X : Cx) (r : V → Option Int → Option Int → Hp → VK → Prop) : Prop :=
  ∀ (pins : List (Addr × Obj)) (s : Shared) (σ : St) (H : Hp) (x : V) (v vl vu : Value) (lo hi : Option Int) (sl : Addr) (Q : VK), Inv X pins σ H s → RelV x v → s.heap.IsSliceOf sl vl vu .none → IsPart vl lo → IsPart vu hi → r x lo hi H Q →
    ∃ T id, typeLookup (.type T) "__getitem__" = pure (some (.builtin id)) ∧ s.TypeIs v T ∧ wpAny (model X.prog X.w) X.A (getItem v (.ref sl)) (EP X pins σ Q) X.xe s
theorem SlR.or {r r' : V → Option Int → Option Int → Hp → VK → Prop} (h : SlR X r) (h' : SlR X r') : SlR X (fun x lo hi H Q => r x lo hi H Q ∨ r' x lo hi H Q) := by
  intro pins s σ H x v vl vu lo hi sl Q I rx hs pl pu q
  rcases q with q | q
  · exact h pins s σ H x v vl vu lo hi sl Q I rx hs pl pu q
  · exact h' pins s σ H x v vl vu lo hi sl Q I rx hs pl pu q
def tSl (r : V → Option Int → Option Int → Hp → VK → Prop) (te : TE) (tl th : TO) : TE := fun σ H Q => te σ H fun x H1 => tl σ H1 fun l H2 => th σ H2 fun u H3 => r x l u H3 Q
/-- a[lo:hi], any a -/
theorem pe_slice {r : V → Option Int → Option Int → Hp → VK → Prop} (hr : SlR X r) (he : PE X e te) (hl : PO X lo tl) (hu : PO X hi th) : PE X (.Subscript e (.Slice lo hi none p2) pos) (tSl r te tl th) := by
  intro pins s σ H Q I h
  refine Subscript_ (thn (he pins s σ H _ I h) fun v s1 ⟨x, H1, I1, r1, q1⟩ => ?_)
  refine wpAny_Slice (thn (hl pins s1 σ H1 _ I1 q1) fun vl s2 ⟨l, H2, I2, pl, q2⟩ => thn (hu pins s2 σ H2 _ I2 q2) fun vu s3 ⟨u, H3, I3, pu, q3⟩ => ?_)
  rw [evalPart_none]
  refine wpAny_pure ?_
  have I4 : Inv X pins σ H3 { s3 with heap := s3.heap.push { cls := .type "slice", data := .fields #[vl, vu, .none] } } := I3.kept (t' := s3.toks) fun b ob q => Heap.get?_push_of_some _ q
  obtain ⟨T, id, hT, ht, hg⟩ := hr pins { s3 with heap := s3.heap.push { cls := .type "slice", data := .fields #[vl, vu, .none] } } σ H3 x v vl vu l u s3.heap.objs.size Q I4 r1 (Heap.IsSliceOf.new ..) pl pu q3
  show wpAny (model X.prog X.w) X.A (subscriptTail e (.Slice lo hi none p2) v (.ref s3.heap.objs.size)) (EP X pins σ Q) X.xe { s3 with heap := s3.heap.push { cls := .type "slice", data := .fields #[vl, vu, .none] } }
  exact tail_any (ops := [.ref s3.heap.objs.size, v]) ht hT hg (by with_unfolding_all rfl)

/-- the items of xs[lo:hi] -/
def cutV (xs : List V) (lo hi : Option Int) : List V := (xs.drop (HT.sIx xs.length 0 lo)).take (HT.sIx xs.length xs.length hi - HT.sIx xs.length 0 lo)
theorem cutV_length (xs : List V) (lo hi : Option Int) : (cutV xs lo hi).length ≤ xs.length := by
  unfold cutV
  rw [List.length_take, List.length_drop]
  omega
/-! ### t < u, t + u -/
end
end L2

namespace L2
open PySem PySem.Spec PyProof.Rows

/-! ### places -/
/-- the place that an index of any sign means -/
def ixN (n : Nat) (i : Int) : Option Nat := if 0 ≤ i then (if i < n then some i.toNat else none) else if -(n : Int) ≤ i then some (i + n).toNat else none
def atI {α : Type} (xs : List α) (i : Int) : Option α := (ixN xs.length i).bind fun j => xs[j]?
theorem ixN_seq {n : Nat} {i : Int} {j : Nat} (h : ixN n i = some j) : seqIndex? i n = some j ∧ j < n ∧ -(n : Int) ≤ i ∧ i < n := by
  unfold ixN at h
  by_cases h0 : 0 ≤ i
  · rw [if_pos h0] at h
    by_cases h1 : i < n
    · rw [if_pos h1] at h
      have e : i.toNat = j := Option.some.inj h
      exact ⟨by rw [seqIndex_of h0 h1, e], by omega, by omega, h1⟩
    · rw [if_neg h1] at h; cases h
  · rw [if_neg h0] at h
    by_cases h1 : -(n : Int) ≤ i
    · rw [if_pos h1] at h
      have e : (i + n).toNat = j := Option.some.inj h
      exact ⟨by rw [seqIndex_neg (by omega) h1, e], by omega, h1, by omega⟩
    · rw [if_neg h1] at h; cases h
theorem atI_get {α : Type} {xs : List α} {i : Int} {v : α} (h : atI xs i = some v) : ∃ j, seqIndex? i xs.length = some j ∧ xs[j]? = some v ∧ j < xs.length ∧ -(xs.length : Int) ≤ i ∧ i < xs.length := by
  unfold atI at h
  cases e : ixN xs.length i with
  | none => rw [e] at h; cases h
  | some j =>
    rw [e] at h
    obtain ⟨h1, h2, h3, h4⟩ := ixN_seq e
    exact ⟨j, h1, h, h2, h3, h4⟩
/-! ### what may be subscripted -/
/-- what stands as an index of a plain subscript -/
def PlainIx (b : Expr) : Prop := ∀ o i, subscripted b false o i = operate [o, i] (getItem o i)
/-- a subscript by values -/
def IxR (X : Cx) (r : R2) : Prop :=
  ∀ (value slice : Expr) (pins : List (Addr × Obj)) (s : Shared) (σ : St) (H : Hp) (x y : V) (v u : Value) (Q : VK), Inv X pins σ H s → RelV x v → RelV y u → r x y H Q →
    subscripted slice false v u = operate [v, u] (getItem v u) → wpAny (model X.prog X.w) X.A (subscriptTail value slice v u) (EP X pins σ Q) X.xe s
/-- a call of a builtin's method by values: the receiver, the arguments -/
def MtR (X : Cx) (id : String) (r : V → List V → Hp → VK → Prop) : Prop :=
  ∀ (pins : List (Addr × Obj)) (s : Shared) (σ : St) (H : Hp) (x : V) (xs : List V) (v : Value) (us : List Value) (Q : VK), Inv X pins σ H s → RelV x v → Vals xs us → r x xs H Q →
    wpAny (model X.prog X.w) X.A (call (.builtin id) (v :: us)) (EP X pins σ Q) X.xe s
section
variable {X : Cx} {a b : Expr} {ta tb : TE} {pos : Pos}
theorem IxR.or {r r' : R2} (h : IxR X r) (h' : IxR X r') : IxR X (fun x y H Q => r x y H Q ∨ r' x y H Q) := by
  intro value slice pins s σ H x y v u Q I rx ry q hs
  rcases q with q | q
  · exact h value slice pins s σ H x y v u Q I rx ry q hs
  · exact h' value slice pins s σ H x y v u Q I rx ry q hs
theorem MtR.or {id : String} {r r' : V → List V → Hp → VK → Prop} (h : MtR X id r) (h' : MtR X id r') : MtR X id (fun x xs H Q => r x xs H Q ∨ r' x xs H Q) := by
  intro pins s σ H x xs v us Q I rx rs q
  rcases q with q | q
  · exact h pins s σ H x xs v us Q I rx rs q
  · exact h' pins s σ H x xs v us Q I rx rs q
/-- a[b] -/
theorem pe_ix {r : R2} (hr : IxR X r) (ha : PE X a ta) (hb : PE X b tb) (hs : PlainIx b) : PE X (.Subscript a b pos) (tOp r ta tb) := by
  intro pins s σ H Q I h
  exact Subscript_ (binT ha hb I h fun v u s2 x y H2 I2 rx ry q => hr a b pins s2 σ H2 x y v u Q I2 rx ry q (hs _ _))

def rIxL (K : PySem.W.Frag) : R2 := fun x y H Q => ∃ p xs i v, x = .ref p ∧ y = .int i ∧ SqL K H p xs ∧ atI xs i = some v ∧ Q v H
def rIxT (K : PySem.W.Frag) : R2 := fun x y H Q => ∃ p xs i v, x = .ref p ∧ y = .int i ∧ SqT K H p xs ∧ atI xs i = some v ∧ Q v H
def rIxS : R2 := fun x y H Q => ∃ z i c, x = .str z ∧ y = .int i ∧ z.length ≤ sizeLine ∧ atI z.cps.toList i = some c ∧ Q (.str ⟨#[c]⟩) H
theorem ix_list : IxR X (rIxL X.K) := by
  intro value slice pins s σ H x y v u Q I rx ry h hs
  obtain ⟨p, xs, i, z, rfl, rfl, hq, he, q⟩ := h
  cases rx
  obtain ⟨t, rfl⟩ := ry
  obtain ⟨its, r, pl, hz⟩ := I.list hq
  obtain ⟨j, h1, h2, h3, h4, h5⟩ := atI_get he
  obtain ⟨w, ew, rw'⟩ := r.get h2
  have hl := r.length
  have hn := line63
  have fin : EP X pins σ Q w s := ⟨z, H, I, rw', q⟩
  by_cases h0 : 0 ≤ i
  · have hj : i.toNat = j := by
      rw [seqIndex_of h0 h5] at h1
      exact Option.some.inj h1
    exact item_listR pl.isList h0 (by omega) (by rw [hj]; simpa using ew) fin hs
  · have hj : (i + (its.toArray.size : Int)).toNat = j := by
      rw [seqIndex_neg (by omega) h4] at h1
      rw [List.size_toArray, ← hl]
      exact Option.some.inj h1
    exact subscriptTail_builtinR (x := w) pl.isList.typeIs slot_list_getitem.lookup
      (wpAny_getItem_list_neg (Q := fun r s' => r = w ∧ EP X pins σ Q r s') pl.isList (by omega) (by rw [List.size_toArray] <;> omega) (by omega) (by rw [hj]; simpa using ew) ⟨rfl, fin⟩) hs
theorem ix_tup : IxR X (rIxT X.K) := by
  intro value slice pins s σ H x y v u Q I rx ry h hs
  obtain ⟨p, xs, i, z, rfl, rfl, hq, he, q⟩ := h
  cases rx
  obtain ⟨t, rfl⟩ := ry
  obtain ⟨its, r, pl, hz⟩ := I.tuple hq
  obtain ⟨j, h1, h2, h3, h4, h5⟩ := atI_get he
  obtain ⟨w, ew, rw'⟩ := r.get h2
  have hl := r.length
  have hn := line63
  have fin : EP X pins σ Q w s := ⟨z, H, I, rw', q⟩
  exact subscriptTail_builtinR (x := w) pl.typeIs slot_tuple_getitem.lookup
    (getItem_tuple (j := j) (Q := fun r s' => r = w ∧ EP X pins σ Q r s') pl (by omega) (by omega) (by rw [List.size_toArray, ← hl]; exact h1) (by simpa using ew) ⟨rfl, fin⟩) hs
theorem ix_str : IxR X rIxS := by
  intro value slice pins s σ H x y v u Q I rx ry h hs
  obtain ⟨z, i, c, rfl, rfl, hz, he, q⟩ := h
  obtain ⟨t, rfl⟩ := rx
  obtain ⟨t', rfl⟩ := ry
  obtain ⟨j, h1, h2, h3, h4, h5⟩ := atI_get he
  have hl : z.cps.toList.length = z.length := by simp [Str.length]
  rw [hl] at h1 h4 h5
  have hn := line63
  exact tail_any (typeIs_str s z t) slot_str_getitem.lookup (getItem_str (c := c) (by
    have e1 : decide (i < -(2 ^ 63 : Int)) = false := decide_eq_false (by omega)
    have e2 : decide (i ≥ 2 ^ 63) = false := decide_eq_false (by omega)
    rw [e1, e2, Bool.or_false]) (by rw [h1]; simpa using h2) ⟨.str ⟨#[c]⟩, H, I.tok _, ⟨_, rfl⟩, q⟩) hs
/-- list, tuple or str -/
def rIx (K : PySem.W.Frag) : R2 := fun x y H Q => rIxL K x y H Q ∨ rIxT K x y H Q ∨ rIxS x y H Q
theorem ix_seq : IxR X (rIx X.K) := ix_list.or (ix_tup.or ix_str)

/-! ### xs[i] = v, any sign -/
/-- the list's object behind a store -/
theorem mapSeq_set (its : List Value) (n j : Nat) (u : Value) : Obj.mapSeq (·.setIfInBounds j u) { cls := .type "list", data := .seq its.toArray n } = { cls := .type "list", data := .seq (its.set j u).toArray n } := by
  simp [Obj.mapSeq]
theorem Inv.lst {pins : List (Addr × Obj)} {σ : St} {H : Hp} {s : Shared} {p : Addr} {xs : List V} (I : Inv X pins σ H s) (h : H p = some (.lst xs)) :
    ∃ (its : List Value) (n : Nat), Vals xs its ∧ s.heap.get? p = some { cls := .type "list", data := .seq its.toArray n } ∧ xs.length ≤ sizeLine := by
  obtain ⟨z, its, n, r, e⟩ := I.hok p _ h
  exact ⟨its, n, r, e, z⟩
/-- the list at p is written by an update of its object -/
theorem Inv.lstUpd {pins : List (Addr × Obj)} {σ : St} {H : Hp} {s : Shared} {p : Addr} {xs ys : List V} {its its' : List Value} {n n' : Nat} {f : Obj → Obj} (I : Inv X pins σ H s) (h : H p = some (.lst xs))
    (ho : s.heap.get? p = some { cls := .type "list", data := .seq its.toArray n }) (hf : f { cls := .type "list", data := .seq its.toArray n } = { cls := .type "list", data := .seq its'.toArray n' }) (r : Vals ys its') (hz : ys.length ≤ sizeLine) (t : Nat) :
    Inv X pins σ (upd H p (.lst ys)) { s with heap := s.heap.update p f, toks := t } := by
  have e : (s.heap.update p f).get? p = some { cls := .type "list", data := .seq its'.toArray n' } := by
    rw [Heap.get?_update_self f ho (by rw [hf] <;> rfl), hf]
  refine I.write (x := p) (e := p) (by rw [h]; trivial) (.inl rfl) (fun b u hb q => (Heap.get?_update_other _ _ (Ne.symm hb)).trans q) ⟨_, e⟩ ?_
  exact ⟨hz, its', n', r, e⟩
def rSetL : V → V → V → Hp → (Hp → Prop) → Prop := fun o i v H Q => ∃ p xs k j, o = .ref p ∧ i = .int k ∧ H p = some (.lst xs) ∧ ixN xs.length k = some j ∧ Q (upd H p (.lst (xs.set j v)))
theorem set_list : PSet X rSetL := by
  intro pins s σ H o i v ov iv u Q I ro ri rv h
  obtain ⟨p, xs, k, j, rfl, rfl, hp, hj, q⟩ := h
  cases ro
  obtain ⟨t, rfl⟩ := ri
  obtain ⟨its, n, r, ho, hz⟩ := I.lst hp
  obtain ⟨h1, h2, h3, h4⟩ := ixN_seq hj
  have hl := r.length
  have hn := line63
  have I' : Inv X pins σ (upd H p (.lst (xs.set j v))) { s with heap := s.heap.update p (Obj.mapSeq (·.setIfInBounds j u)) } :=
    I.lstUpd hp ho (mapSeq_set its n j u) (r.set rv j) (by rw [List.length_set]; exact hz) s.toks
  by_cases h0 : 0 ≤ k
  · have hk : k.toNat = j := by
      rw [seqIndex_of h0 h4] at h1
      exact Option.some.inj h1
    exact PySem.W.ki_setAt ho h0 (by omega) (by rw [List.size_toArray, ← hl]; exact h4) (by rw [hk]; exact ⟨_, I', q⟩)
  · have hk : (k + (its.toArray.size : Int)).toNat = j := by
      rw [seqIndex_neg (by omega) h3] at h1
      rw [List.size_toArray, ← hl]
      exact Option.some.inj h1
    exact PySem.W.ki_setBack ho (by omega) (by rw [List.size_toArray, ← hl]; exact h3) (by omega) (by rw [hk]; exact ⟨_, I', q⟩)

/-! ### slices -/
theorem slice_bounds (lo hi : Option Int) (n : Nat) : (sliceBounds lo hi none n).1 = ((HT.sIx n 0 lo : Nat) : Int) ∧ (sliceBounds lo hi none n).2.1 = ((HT.sIx n n hi : Nat) : Int) ∧ (sliceBounds lo hi none n).2.2 = 1 := by
  refine ⟨?_, ?_, rfl⟩
  · cases lo with
    | none => simp [sliceBounds, HT.sIx]
    | some i =>
      simp only [sliceBounds, HT.sIx, Option.getD_none, show (1 : Int) > 0 by decide, if_true]
      by_cases h : i < 0
      · simp only [h, if_true] <;> omega
      · simp only [h, if_false] <;> omega
  · cases hi with
    | none => simp [sliceBounds, HT.sIx]
    | some i =>
      simp only [sliceBounds, HT.sIx, Option.getD_none, show (1 : Int) > 0 by decide, if_true]
      by_cases h : i < 0
      · simp only [h, if_true] <;> omega
      · simp only [h, if_false] <;> omega
theorem slicePick_cut (its : List Value) (lo hi : Option Int) : slicePick its.toArray lo hi none = ((its.drop (HT.sIx its.length 0 lo)).take (HT.sIx its.length its.length hi - HT.sIx its.length 0 lo)).toArray := by
  obtain ⟨h1, h2, h3⟩ := slice_bounds lo hi its.toArray.size
  unfold slicePick
  rw [h1, h2, h3]
  simp only [sliceRange_one, pick_run, List.size_toArray] <;> rfl
/-- xs[lo:hi] of a list: a new list -/
def rSlL (K : PySem.W.Frag) : V → Option Int → Option Int → Hp → VK → Prop := fun x lo hi H Q => ∃ a xs, x = .ref a ∧ SqL K H a xs ∧ ∀ p, H p = none → Q (.ref p) (upd H p (.lst (cutV xs lo hi)))
theorem sl_list : SlR X (rSlL X.K) := by
  intro pins s σ H x v vl vu lo hi sl Q I rx hs pl pu h
  obtain ⟨a, xs, rfl, hx, q⟩ := h
  cases rx
  obtain ⟨its, r, ht, hz⟩ := I.list hx
  have hlen := r.length
  refine ⟨"list", _, slot_list_getitem.lookup, ht.isList.typeIs, ?_⟩
  refine wpAny_getItem_list_slice ht.isList hs pl pu .none (by simp) ?_ (by rw [List.size_toArray] <;> omega)
  rw [slicePick_cut, ← hlen]
  refine ⟨.ref s.heap.objs.size, _, I.laid (t' := s.toks) (o := .lst (cutV xs lo hi)) (fun b ob q => Heap.get?_push_of_some _ q) (Nat.le_refl _) ?_, rfl, q _ (I.hok.fresh (Nat.le_refl _))⟩
  exact ⟨Nat.le_trans (cutV_length xs lo hi) hz, _, 0, (r.drop (HT.sIx xs.length 0 lo)).take (HT.sIx xs.length xs.length hi - HT.sIx xs.length 0 lo), Heap.get?_push_size _ rfl⟩

/-! ### in, not in: flat items -/
/-! ### len, list(x), tuple(x) of any list or tuple that is read -/
theorem CallR.or {f : Value} {r r' : List V → Hp → VK → Prop} (h : CallR X f r) (h' : CallR X f r') : CallR X f (fun xs H Q => r xs H Q ∨ r' xs H Q) := by
  intro pins s σ H xs us Q I rs q
  rcases q with q | q
  · exact h pins s σ H xs us Q I rs q
  · exact h' pins s σ H xs us Q I rs q
theorem call_list_of : CallR X (.type "list") (fun xs H Q => ∃ p ys, xs = [.ref p] ∧ (SqL X.K H p ys ∨ SqT X.K H p ys) ∧ ∀ l, H l = none → Q (.ref l) (upd H l (.lst ys))) := by
  intro pins s σ H xs us Q I r h
  obtain ⟨p, ys, rfl, hq, q⟩ := h
  obtain ⟨u, rfl, rx⟩ := vals1 r
  cases rx
  have fin : ∀ (its : List Value), Vals ys its → ys.length ≤ sizeLine → ∀ (h' : Heap) (c' : Nat), (∀ b o', s.heap.get? b = some o' → h'.get? b = some o') →
      h'.get? s.heap.objs.size = some { cls := .type "list", dict := none, data := .seq its.toArray c', slots := #[] } → EP X pins σ Q (.ref s.heap.objs.size) { s with heap := h' } := fun its r' hz h' c' kp e =>
    ⟨.ref s.heap.objs.size, _, I.laid (t' := s.toks) kp (Nat.le_refl _) (show ObjOk X.prog X.w _ h' _ (.lst ys) from ⟨hz, its, c', r', e⟩), rfl, q _ (I.hok.fresh (Nat.le_refl _))⟩
  rcases hq with hq | hq
  · obtain ⟨its, r', pl, hz⟩ := I.list hq
    have hlen := r'.length
    obtain ⟨o, ho, hc, n, hd⟩ := pl.isList
    exact call_list_seq p (.inl rfl) ho hc hd (fun h' c' kp e => fin its r' hz h' c' kp e) (by simp only [List.size_toArray] <;> omega)
  · obtain ⟨its, r', pl, hz⟩ := I.tuple hq
    have hlen := r'.length
    obtain ⟨o, ho, hc, n, hd⟩ := pl
    exact call_list_seq p (.inr rfl) ho hc hd (fun h' c' kp e => fin its r' hz h' c' kp e) (by simp only [List.size_toArray] <;> omega)
/-! ### the call of a builtin's method: o.m(..) -/
/-- the value is of that builtin type -/
def tyV (K : PySem.W.Frag) (T : String) (x : V) (H : Hp) : Prop := match x with
  | .str _ => T = "str"
  | .int _ => T = "int"
  | .ref p => (T = "list" ∧ ∃ xs, SqL K H p xs) ∨ (T = "tuple" ∧ ∃ o, K.lookup p = some o ∧ o.cls = .type "tuple" ∧ o.dict = none) ∨
      (T = "dict" ∧ ((∃ kvs, H p = some (.dK kvs)) ∨ ∃ kvs, H p = some (.dT kvs))) ∨ (T = "set" ∧ ∃ S n, H p = some (.set S n))
  | _ => False
theorem tyV_is {pins : List (Addr × Obj)} {σ : St} {H : Hp} {s : Shared} {T : String} {x : V} {v : Value} (I : Inv X pins σ H s) (r : RelV x v) (ty : tyV X.K T x H) :
    s.TypeIs v T ∧ ∀ a, v = .ref a → ∃ ob, s.heap.get? a = some ob ∧ ob.dict = none := by
  cases x with
  | str z =>
    obtain ⟨t, rfl⟩ := r
    cases (show T = "str" from ty)
    exact ⟨typeIs_str s z t, fun _ e => nomatch e⟩
  | int i =>
    obtain ⟨t, rfl⟩ := r
    cases (show T = "int" from ty)
    exact ⟨typeIs_int s i t, fun _ e => nomatch e⟩
  | ref p =>
    cases r
    rcases ty with ⟨rfl, xs, hq⟩ | ⟨rfl, o, hk, hc, hd⟩ | ⟨rfl, hk⟩ | ⟨rfl, S, n, hk⟩
    · obtain ⟨its, _, pl, _⟩ := I.list hq
      refine ⟨pl.isList.typeIs, fun a e => ?_⟩
      cases e
      obtain ⟨o, n, e, c, hd, _⟩ := pl
      exact ⟨o, e, hd⟩
    · refine ⟨⟨o, I.kIn p o hk, hc⟩, fun a e => ?_⟩
      cases e
      exact ⟨o, I.kIn _ o hk, hd⟩
    · have z : ∃ o, s.heap.get? p = some o ∧ o.ExactDict := by
        rcases hk with ⟨kvs, hk⟩ | ⟨kvs, hk⟩
        · obtain ⟨_, _, _, _, o, _, _, e, ex, _⟩ := I.hok p _ hk
          exact ⟨o, e, ex⟩
        · obtain ⟨_, _, _, _, o, _, _, e, ex, _⟩ := I.hok p _ hk
          exact ⟨o, e, ex⟩
      obtain ⟨o, e, ex⟩ := z
      refine ⟨⟨o, e, ex.1⟩, fun a e2 => ?_⟩
      cases e2
      exact ⟨o, e, ex.2.1⟩
    · obtain ⟨o, _, _, _, e, ex, _⟩ := I.hok p _ hk
      refine ⟨⟨o, e, ex.1⟩, fun a e2 => ?_⟩
      cases e2
      exact ⟨o, e, ex.2.1⟩
  | _ => exact False.elim ty
def tBM (K : PySem.W.Frag) (T : String) (r : V → List V → Hp → VK → Prop) (to : TE) (t : TA) : TE := fun σ H Q => to σ H fun x H1 => tyV K T x H1 ∧ t σ H1 fun xs H2 => r x xs H2 Q
variable {o e : Expr} {es : List Expr} {to : TE} {t : TA} {name : Str} {apos cpos : Pos} {T id : String} {r : V → List V → Hp → VK → Prop}
theorem pe_bm (pa : PlainAttrs T) (slot : Slot T name id) (hty : typeOf (.builtin id) = pure (.type "method_descriptor")) (hm : MtR X id r) (ho : PE X o to) (ha : PA X (e :: es) t)
    (hbase : attributeBase o name X.env (eval o X.env) = eval o X.env := by rfl)
    (hfew : ((backTo cpos (starEach (e :: es) X.env)).all (fun x => !x.1) && (backToKw cpos (keywordEach [] X.env)).all (fun x => x.1.isSome)
      && decide ((e :: es).length + ([] : List Keyword).length + (if ([] : List Keyword).isEmpty then 0 else 1) < 30)) = true := by rfl)
    (hline : (apos.endLine == cpos.line) = true := by rfl) (hs : starEach (e :: es) X.env = (false, eval e X.env) :: starEach es X.env := by rfl) (hplain : (backTo cpos (starEach es X.env)).any (·.1) = false := by rfl) :
    PE X (.Call (.Attribute o name apos) (e :: es) [] cpos) (tBM X.K T r to t) := by
  intro pins s σ H Q I h
  refine wpAny_Call_method_late hbase hfew hline rfl (thn (ho pins s σ H _ I h) fun v s1 ⟨x, H1, I1, r1, ty, q1⟩ => ?_)
  obtain ⟨h1, h2⟩ := tyV_is I1 r1 ty
  refine ⟨T, id, pa, slot, hty, h1, h2, ?_⟩
  have hA := ha cpos pins s1 σ H1 _ I1 q1
  rw [hs] at hA ⊢
  refine Calls.callWith_builtin (by show (false || (backTo cpos (starEach es X.env)).any (·.1)) = false; rw [hplain] <;> rfl) (Calls.evalArgs_plain ?_)
  exact thn hA fun us s2 ⟨vs, H2, I2, r2, q2⟩ => hm pins s2 σ H2 x vs v us Q I2 r1 r2 q2
/- xs.append(e), list.index on a module's tuple .. are MtR facts of 06m -/
end
end L2

namespace L2
open PySem PySem.Spec PyProof.Rows

def MtM (X : Cx) (id : String) (r : V → List V → Hp → VK → Prop) : Prop :=
  ∀ (pins : List (Addr × Obj)) (s : Shared) (σ : St) (H : Hp) (x : V) (xs : List V) (v : Value) (us : List Value) (Q : VK), Inv X pins σ H s → RelV x v → Vals xs us → r x xs H Q →
    wpAny (model X.prog X.w) X.A (call (.builtin id) (v :: us)) (EP X pins σ Q) X.xe s

/-! ### lists of values -/
theorem Vals.one : ∀ {x : V} {us : List Value}, Vals [x] us → ∃ u, us = [u] ∧ RelV x u
  | _, _, .cons r .nil => ⟨_, rfl, r⟩
theorem Vals.two : ∀ {x y : V} {us : List Value}, Vals [x, y] us → ∃ u v, us = [u, v] ∧ RelV x u ∧ RelV y v
  | _, _, _, .cons r (.cons q .nil) => ⟨_, _, rfl, r, q⟩
theorem Vals.zero : ∀ {us : List Value}, Vals [] us → us = []
  | _, .nil => rfl
theorem Vals.rep {xs : List V} {us : List Value} (h : Vals xs us) : ∀ k : Nat, Vals (List.replicate k xs).flatten (List.replicate k us).flatten
  | 0 => .nil
  | k + 1 => by
    rw [List.replicate_succ, List.replicate_succ, List.flatten_cons, List.flatten_cons]
    exact Vals.append h (Vals.rep h k)
theorem foldl_rep (its : List Value) : ∀ (k : Nat) (acc : List Value),
    List.foldl (fun x1 x2 => x1 ++ x2) acc.toArray (List.replicate k its.toArray) = (acc ++ (List.replicate k its).flatten).toArray
  | 0, acc => by simp
  | k + 1, acc => by
    have e : acc.toArray ++ its.toArray = (acc ++ its).toArray := by simp
    have e2 : (acc ++ its) ++ (List.replicate k its).flatten = acc ++ (List.replicate (k + 1) its).flatten := by
      rw [List.replicate_succ, List.flatten_cons, List.append_assoc]
    rw [← e2, ← foldl_rep its k (acc ++ its), ← e, List.replicate_succ, List.foldl_cons]

section
variable {X : Cx} {pins : List (Addr × Obj)} {σ : St} {H : Hp} {s : Shared} {l b : Addr} {xs ys zs : List V}

/-! ### the two steps: a tracked list is rewritten, a new list is laid -/
theorem Inv.lset {its its' : List Value} {n : Nat} {f : Array Value → Array Value} {t' : Nat} (I : Inv X pins σ H s) (hH : H l = some (.lst xs))
    (e : s.heap.get? l = some { cls := .type "list", data := .seq its.toArray n }) (hf : f its.toArray = its'.toArray) (hv : Vals ys its') (hz : ys.length ≤ sizeLine) :
    Inv X pins σ (upd H l (.lst ys)) { s with heap := s.heap.update l (Obj.mapSeq f), toks := t' } := by
  have q := PySem.IsL.update e f
  rw [hf] at q
  refine I.write (x := l) (e := l) (by rw [hH]; exact trivial) (.inl rfl) (fun b' u hb hu => (Heap.get?_update_other s.heap (Obj.mapSeq f) (Ne.symm hb)).trans hu) ⟨_, q⟩ ?_
  exact ⟨hz, its', _, hv, q⟩
theorem Inv.lnew {its : List Value} {t' : Nat} (I : Inv X pins σ H s) (hv : Vals ys its) (hz : ys.length ≤ sizeLine) :
    Inv X pins σ (upd H s.heap.objs.size (.lst ys)) { s with heap := s.heap.push { cls := .type "list", data := .seq its.toArray }, toks := t' } :=
  I.laid (fun _ _ q => Heap.get?_push_of_some _ q) (Nat.le_refl _) ⟨hz, its, 0, hv, Heap.get?_push_size _ rfl⟩
theorem Inv.fresh (I : Inv X pins σ H s) : H s.heap.objs.size = none := I.hok.fresh (Nat.le_refl _)
theorem Inv.lstM (I : Inv X pins σ H s) (hH : H l = some (.lst xs)) : xs.length ≤ sizeLine ∧ ∃ (its : List Value) (n : Nat), Vals xs its ∧ xs.length = its.length ∧ s.heap.get? l = some { cls := .type "list", data := .seq its.toArray n } := by
  obtain ⟨z, its, n, r, e⟩ := I.hok l _ hH
  exact ⟨z, its, n, r, r.length, e⟩

theorem notLongL {n : Nat} (h : n ≤ sizeLine) : Builtin.List.listTooLong n = false := by
  unfold Builtin.List.listTooLong
  exact decide_eq_false (by omega)
end

section
variable {X : Cx}

/-! ### methods -/
def rAppend : V → List V → Hp → VK → Prop := fun x vs H Q => ∃ l xs y, x = .ref l ∧ vs = [y] ∧ H l = some (.lst xs) ∧ xs.length < sizeLine ∧ Q .non (upd H l (.lst (xs ++ [y])))
theorem mt_append : MtM X "list.append" rAppend := by
  intro pins s σ H x vs v us Q I rx rv h
  obtain ⟨l, xs, y, rfl, rfl, hH, hz, q⟩ := h
  cases rx
  obtain ⟨u, rfl, ru⟩ := rv.one
  obtain ⟨z, its, n, r, hl, e⟩ := I.lstM hH
  refine call_meets F.slot_list_append ⟨_, e, rfl⟩ F.entry_list_append (F.args_list_append_2 _ _) (PySem.list_append l its.toArray n u (by rw [List.size_toArray]; omega)) ⟨e, ?_⟩
  refine ⟨.non, _, I.lset (its' := its ++ [u]) hH e (by simp) (r.append (.cons ru .nil)) ?_, rfl, q⟩
  rw [List.length_append, List.length_singleton]
  omega

/-! ### list + list, list += list, list * int -/
/-- a list times an int (a negative one is nothing) -/
def rRep : R2 := fun x y H Q => ∃ l k xs, x = .ref l ∧ y = .int k ∧ H l = some (.lst xs) ∧ -(2 ^ 63) ≤ k ∧ k < 2 ^ 63 ∧ xs.length * k.toNat ≤ sizeLine ∧
  ∀ p, H p = none → Q (.ref p) (upd H p (.lst (List.replicate k.toNat xs).flatten))
theorem len_rep {α : Type} (xs : List α) (k : Nat) : (List.replicate k xs).flatten.length = k * xs.length := by
  induction k with
  | zero => simp
  | succ k ih => rw [List.replicate_succ, List.flatten_cons, List.length_append, ih, Nat.succ_mul, Nat.add_comm]
theorem op_rep : OpR X (binaryOp .Mult) rRep := by
  intro pins s σ H x y v u Q I rx ry h
  obtain ⟨l, k, xs, rfl, rfl, hH, h1, h2, hz, q⟩ := h
  cases rx
  obtain ⟨t, rfl⟩ := ry
  obtain ⟨z, its, n, r, hl, e⟩ := I.lstM hH
  have hlen : its.toArray.size * k.toNat ≤ sizeLine := by rw [List.size_toArray, ← hl]; exact hz
  have hcap : ¬ its.toArray.size * k.toNat > (2 ^ 63 - 1) / 8 := by
    have : (sizeLine : Nat) ≤ (2 ^ 63 - 1) / 8 := by decide
    omega
  have hfit : ¬ (!Builtin.List.listFitsIndex k) = true := by
    rw [fitsIndex_both h1 h2]
    exact Bool.false_ne_true
  have hlong : ¬ Builtin.List.listTooLong (its.toArray.size * k.toNat) = true := by
    rw [notLongL hlen]
    exact Bool.false_ne_true
  have hnew : List.foldl (fun x1 x2 => x1 ++ x2) #[] (List.replicate (if its.toArray.isEmpty = true then 0 else k.toNat) its.toArray) = (List.replicate k.toNat its).flatten.toArray := by
    have f0 : ∀ m : Nat, List.foldl (fun x1 x2 => x1 ++ x2) #[] (List.replicate m its.toArray) = (List.replicate m its).flatten.toArray := fun m => by
      have := foldl_rep its m []
      rw [List.nil_append] at this
      exact this
    rw [f0]
    cases its with
    | nil => simp
    | cons a r' => rw [if_neg (by simp)]
  refine wpAny_binaryOp_repeat_ref (T := "list") (U := "int") (by decide) ⟨_, e, rfl⟩ (fun s' => typeIs_int s' k t) noFill_list_mul F.fills_int_mul F.slot_int_rmul repeat_list F.slot_int_index.lookup
    (call_meets F.slot_int_rmul (typeIs_int s k t) F.entry_int_rmul (F.args_int_rmul_2 _ _) (int___rmul___int_list k t l its.toArray n)
      ⟨e, rfl, ⟨_, e, rfl⟩, call_meets F.slot_list_mul ⟨_, e, rfl⟩ F.entry_list_mul (F.args_list_mul_2 _ _) (AutoListH.list___mul___list_int_3 l its.toArray n k t hfit hcap hlong) ⟨e, ?_⟩⟩)
  rw [hnew]
  exact ⟨.ref _, _, I.lnew (t' := s.toks) (r.rep k.toNat) (by rw [len_rep, Nat.mul_comm]; exact hz), rfl, q _ I.fresh⟩

/-! ### del xs[i] -/
end

/-! ### xs[a:b] = ys -/
section
variable {prog : Program} {w : World} {A : Around} {E : Value → Shared → Prop} {s : Shared}
end

section
variable {X : Cx}
end
end L2

namespace Att
open PySem PySem.W PySem.Calls PyProof.Rows

/-! ### the script -/
theorem ints_of_wellAll {P : Params} {h : Heap} : ∀ (ns : List Int) (vs : List Value), WellAll P h vs (ns.map WData.int) → IntsAre vs ns := by
  intro ns
  induction ns with
  | nil =>
    intro vs w
    rw [List.map_nil] at w
    cases w
    exact .nil
  | cons n ns ih =>
    intro vs w
    rw [List.map_cons] at w
    cases w with
    | cons a b =>
      cases a
      exact .cons _ _ (ih _ b)

theorem script_of {l : OpenLaw} {n : Nat} (hn : l.most = some n) {P : Params} {h : Heap} {args : List WData} {vals : List Value}
    (hpre : l.row.toRowW.claim.pre args = true) (hwl : WellAll P h vals args) :
    ∃ a vs ns, vals = [Value.ref a] ∧ args = [WData.list (ns.map WData.int)] ∧ h.get? a = some { cls := .type "list", data := .seq vs.toArray } ∧ IntsAre vs ns ∧ ns.length ≤ n := by
  have hsh : WShape.hasAll [] args [.list .int] = true := (pre_splitW hpre).1
  have hc : l.pre.holds [] { args := args } = true := (pre_splitW hpre).2
  obtain ⟨d, r, rfl, h1, h2⟩ := hasAllW_cons hsh
  obtain rfl := hasAllW_nil h2
  obtain ⟨xs, rfl, h3⟩ := hasW_list h1
  obtain ⟨ns, rfl⟩ := items_int h3
  have hlen : ns.length ≤ n := by
    unfold OpenLaw.pre at hc
    have h4 : (WTm.not (.lt (.lit (.int (n : Int))) (.len (.arg 0)))).holds [] { args := [.list (ns.map .int)] } = true := by
      have h4 := (holds_andW hc).1
      rw [hn] at h4
      exact h4
    have h5 := condW_of h4 (w_not (w_lt w_lit (w_len_list (w_arg rfl))))
    rw [List.length_map] at h5
    refine Nat.le_of_not_lt fun q => ?_
    have q' : (n : Int) < ((ns.length : Nat) : Int) := by omega
    first
      | (rw [decide_eq_true q'] at h5; exact absurd h5 (by decide))
      | (simp at h5; omega)
  cases hwl with
  | cons w1 w2 =>
    cases w2
    cases w1 with
    | list ho hall => exact ⟨_, _, ns, rfl, rfl, ho, ints_of_wellAll ns _ hall, hlen⟩

theorem post_true (l : OpenLaw) (args : List WData) : l.row.toRowW.claim.post args (.bool true) args = true :=
  postW_of (r := l.row.toRowW) (X := (true == true))
    (show WShape.has [] (.bool true) .bool = true by first | rfl | decide | simp [WShape.has, WShape.arms, WShape.armsAll])
    (show (WTm.eq .res (.lit (.bool true))).value [] { args := args, res := some (.bool true), after := args } = some (.bool (true == true)) from w_eq_bool (w_res rfl) w_lit) rfl

/-! ### the attachment: holds_open's last premise (the goal 'hc' behind k_head) from a wpAny of the law's body -/
/-- the same from a codeAny of the CALL (for a layer whose function contracts speak of calls) -/
theorem attach_call {l : OpenLaw} {n : Nat} {q : Program} {loose : List Str} {XP : (Str → Option Value) → Heap → Prop} {YP : World → Heap → Prop} {d : DefRec}
    (hn : l.most = some n) (hdf : d.params.defaults = [])
    (call : ∀ (w : World) (s₀ s₁ : Shared) (mg mb : Str → Option Value) (fa : Addr) (o : Obj) (pm cd doc : Value) (a : Addr) (vs : List Value) (ns : List Int),
      Ground q loose [] XP w s₀ mg mb s₁.heap → YP w s₁.heap →
      s₁.heap.get? fa = some o → o.data = .func (docDef d.name d.params d.body d.scope pm cd doc) → s₁.heap.CodeRec cd d.name → mg d.name = some (.ref fa) →
      s₁.heap.get? a = some { cls := .type "list", data := .seq vs.toArray } → IntsAre vs ns → ns.length ≤ n → s₁.gens = #[] →
      codeAny (model l.prog w) callerA (.call (.ref fa) ⟨[.ref a], []⟩) (fun r s' => r = .ok (.ret (.bool true)) ∧ OldK s₁.heap s'.heap ∧ s'.os = s₁.os ∧ AllBare s'.gens) s₁) :
    WalkO q loose XP YP l.row.toRowW d [] (fun f vs => PySem.call f vs) := by
  intro w s₀ s₁ mg mb G Y fa o pm cd doc dV kV ho hd hcd hD hmg hg args vals as hpre hlay hrd hwl hlo
  obtain rfl : dV = .none := Dflts.none hD hdf
  obtain rfl : kV = .none := Dflts.noKw hD
  obtain ⟨a, vs, ns, rfl, rfl, hobj, hints, hlen⟩ := script_of hn hpre hwl
  refine enter_call (codeAny_mono (call w s₀ s₁ mg mb fa o pm cd doc a vs ns G Y ho (fd_plain hd) hcd hmg hobj hints hlen hg) fun r s' hq => ?_)
  obtain ⟨rfl, h2, h3, h4⟩ := hq
  exact ⟨.inl ⟨.bool true, .bool true, [], rfl, fun _ => rfl, .bool true, post_true l _, fun _ => ⟨List.Pairwise.nil, fun _ hm => (nomatch hm)⟩⟩, h2, h3, h4⟩

/-! ### rules over ANY heap (no ledger) from facts about the written part K: the library's own take a ledger (News) for what they write -/
section
variable {prog : Program} {w : World} {A : Around} {E : Value → Shared → Prop} {s : Shared} {K : Frag}

/-! the whole heap as the ledger: makes every rule that writes through a ledger a rule over any heap -/
def ledger (h : Heap) (L d : Addr) : List (Addr × Obj) := (List.range h.objs.size).filterMap fun a => if a = L ∨ a = d then none else (h.get? a).map fun o => (a, o)
end
end Att

namespace L2
open PySem PySem.Spec PyProof.Rows

theorem vals_ints : ∀ {vs : List Value} {ns : List Int}, IntsAre vs ns → Vals (ns.map V.int) vs
  | _, _, .nil => .nil
  | _, _, .cons n t h => .cons ⟨t, rfl⟩ (vals_ints h)

/-- nothing is tracked but the script, known to the object (or it is an object of the module) -/
def Only (H : Hp) : Prop := ∀ b, H b = none ∨ ∃ o xs, H b = some (.frz o (.lst xs))

/-- THE HEAD: the law's promise, at the heap behind the top. F, the promise of the law's def, may use that base is part of the heap (so K.In base, base.Ns mainGlobals mg stand in Mod) -/
theorem law_call {P : Program} {w : World} {K : PySem.W.Frag} {mg mb : Str → Option Value} {CX : CXT} {k : Nat} {fa a : Addr} {fd : FuncData} {x : Str} {sp : Sp} {s₁ : Shared} {vs : List Value} {ns : List Int}
    (KX : K.In s₁.heap) (hns : s₁.heap.Ns mainGlobals mg) (hb : s₁.heap.Ns builtinsNs mb) (hbb : ∀ x : Str, x ≠ "__name__" → mb x = bootBuiltins x) (hlim : s₁.heap.NoLimit) (hg : s₁.gens = #[])
    (ha : s₁.heap.get? a = some { cls := .type "list", data := .seq vs.toArray }) (hi : IntsAre vs ns) (hl : ns.length ≤ sizeLine) (hr : Room k callerA)
    (F : ∀ base : Heap, K.In base → base.Ns mainGlobals mg → FnOk P w K mg base CX k fa fd [x] sp) (hbind : ∀ (s : Shared) (u : Value), BindsTo s fd ⟨[u], []⟩ [(x, u)])
    (hsp : ∀ H : Hp, Only H → SqL K H a (ns.map V.int) → sp [.ref a] H (fun v _ => v = .bl true) fun _ _ _ => False)
    (hCX : ∀ H e s', CX [] H s₁ (fun _ _ _ => False) e s' → False) :
    codeAny (model P w) callerA (.call (.ref fa) ⟨[.ref a], []⟩) (fun r s' => r = .ok (.ret (.bool true)) ∧ OldK s₁.heap s'.heap ∧ s'.os = s₁.os ∧ AllBare s'.gens) s₁ := by
  have rv := vals_ints hi
  have lenV := hi.length
  -- from an abstract heap in which nothing but the script may be tracked
  have core : ∀ H : Hp, Only H → SqL K H a (ns.map V.int) → HOk P w H s₁.heap → (∀ b, H b ≠ none → b = a) → (H a ≠ none → K.lookup a = none) →
      codeAny (model P w) callerA (.call (.ref fa) ⟨[.ref a], []⟩) (fun r s' => r = .ok (.ret (.bool true)) ∧ OldK s₁.heap s'.heap ∧ s'.os = s₁.os ∧ AllBare s'.gens) s₁ := by
    intro H hO hS hok hA hK
    have base_of : ∀ {b : Addr} {o : Obj}, s₁.heap.get? b = some o → H b = none → (hidT s₁.heap H).get? b = some o := fun e n => hidT_get e n
    have noA : ∀ {b : Addr} {o : Obj} {es : Array DictEntry} {ep : Nat}, s₁.heap.get? b = some o → o.data = .dict es ep → H b = none := fun {b o es ep} e d => by
      cases q : H b with
      | none => rfl
      | some u =>
        have e' : b = a := hA b (by rw [q]; simp)
        subst e'
        rw [ha] at e; cases e
        have d' : Data.seq vs.toArray _ = Data.dict es ep := d
        cases d'
    have nsK : ∀ {b : Addr} {m : Str → Option Value}, s₁.heap.Ns b m → (hidT s₁.heap H).Ns b m := fun {b m} ⟨o, es, ep, e, d, r⟩ => ⟨o, es, ep, base_of e (noA e d), d, r⟩
    have hKb : K.In (hidT s₁.heap H) := fun b o e => base_of (KX b o e) (by
      cases q : H b with
      | none => rfl
      | some u =>
        have e' : b = a := hA b (by rw [q]; simp)
        subst e'
        rw [hK (by rw [q]; simp)] at e; cases e)
    have hM : Mod K mg (hidT s₁.heap H) := ⟨hKb, nsK hns, ⟨mb, nsK hb, hbb⟩, let ⟨mc, h1, h2⟩ := hlim; ⟨mc, nsK h1, h2⟩⟩
    have e0 : Env0 P w K mg (hidT s₁.heap H) callerA [] s₁ H := ⟨rfl, hM, fun b o e => of_hidT e, Nat.le_of_eq (hidT_size _ _), trivial, fun b hb => absurd (show b ∈ ([] : List Addr) from hb) (by simp), hok, .of_eq hg⟩
    refine codeAny_mono ((F _ hKb (nsK hns)).run callerA [] s₁ H ⟨[.ref a], []⟩ [.ref a] [.ref a] _ _ hr e0 (hbind s₁ (.ref a)) (.cons rfl .nil) (hsp H hO hS)) fun r s' h => ?_
    cases r with
    | error e => exact (hCX H e s' h).elim
    | ok fl =>
      cases fl with
      | next => exact False.elim h
      | brk => exact False.elim h
      | cont => exact False.elim h
      | ret u =>
        obtain ⟨v, H', os, bare, un, hok', r', q⟩ := h
        have q' : v = .bl true := q
        subst q'
        obtain rfl : u = Value.bool true := r'
        refine ⟨rfl, OldK.of_keep fun b o e => ?_, os, bare⟩
        cases q : H b with
        | none => exact un.keep b o e q (by intro z; exact absurd (show b ∈ ([] : List Addr) from z) (by simp)) (by simp)
        | some u =>
          rcases hO b with z | ⟨ob, xs, z⟩
          · rw [q] at z; cases z
          · have z2 := un.frzs b ob _ z
            obtain ⟨e1, _⟩ := hok b _ z
            obtain ⟨e2, _⟩ := hok' b _ z2
            rw [e] at e1; cases e1
            exact e2
  cases hk : K.lookup a with
  | some o =>
    -- the script is one of the module's own objects
    have e := KX a o hk
    rw [ha] at e
    cases e
    refine core (fun _ => none) (fun _ => .inl rfl) (.inr ⟨_, vs.toArray, _, hk, rfl, rfl, rfl, by rw [List.size_toArray, lenV]; exact hl, by simpa using rv⟩) (fun b u z => by have z' : (none : Option HO) = some u := z; cases z') (fun b z => absurd rfl z) fun z => absurd rfl z
  | none =>
    refine core (fun b => if b = a then some (.frz { cls := .type "list", data := .seq vs.toArray } (.lst (ns.map V.int))) else none) (fun b => ?_) (.inl (.inr ⟨{ cls := .type "list", data := .seq vs.toArray }, if_pos rfl⟩)) (fun b u z => ?_) (fun b z => ?_) fun _ => hk
    · by_cases hb : b = a
      · exact .inr ⟨_, _, if_pos hb⟩
      · exact .inl (if_neg hb)
    · by_cases hb : b = a
      · have z' := (if_pos hb).symm.trans z
        cases z'
        subst hb
        exact ⟨ha, by rw [List.length_map]; exact hl, vs, _, rv, ha⟩
      · have z' := (if_neg hb).symm.trans z
        cases z'
    · by_cases hb : b = a
      · exact hb
      · exact absurd (if_neg hb) z
end L2

namespace L2
open PySem PySem.Spec PyProof.Rows

abbrev KOf {K : PySem.W.Frag} {h : Heap} (_ : K.In h) : PySem.W.Frag := K

/-- the goal that k_head leaves (case hc), from the law's promise. F gives the function object fd (K's own) once, then the promise over every base -/
theorem walk_of {l : PySem.W.OpenLaw} {n k : Nat} {q : Program} {loose : List Str} {XP : (Str → Option Value) → Heap → Prop} {YP : World → Heap → Prop} {d : DefRec} {K : Params → PySem.W.Frag} {CX : World → CXT} {sp : World → Sp} {x : Str}
    (hn : l.most = some n) (hn2 : n ≤ sizeLine) (hdf : d.params.defaults = []) (hr : Room k callerA)
    (hY : ∀ (w : World) (h : Heap), YP w h → (K w.params).In h)
    (F : ∀ (w : World) (mg : Str → Option Value) (fa : Addr) (h : Heap), (K w.params).In h → h.Ns mainGlobals mg → mg d.name = some (.ref fa) →
      ∃ fd : FuncData, (∀ (s : Shared) (u : Value), BindsTo s fd ⟨[u], []⟩ [(x, u)]) ∧
        ∀ base : Heap, (K w.params).In base → base.Ns mainGlobals mg → FnOk l.prog w (K w.params) mg base (CX w) k fa fd [x] (sp w))
    (hsp : ∀ (w : World) (H : Hp) (a : Addr) (ns : List Int), ns.length ≤ n → Only H → SqL (K w.params) H a (ns.map V.int) → sp w [.ref a] H (fun v _ => v = .bl true) fun _ _ _ => False)
    (hCX : ∀ (w : World) (H : Hp) (s : Shared) (e : Value) (s' : Shared), CX w [] H s (fun _ _ _ => False) e s' → False) :
    PySem.W.WalkO q loose XP YP l.row.toRowW d [] (fun f vs => PySem.call f vs) := by
  refine Att.attach_call hn hdf fun w s₀ s₁ mg mb fa o pm cd doc a vs ns G Y ho hd hcd hmg hobj hints hlen hg => ?_
  have KX := hY w _ Y
  obtain ⟨fd, hb, hF⟩ := F w mg fa _ KX G.T.g hmg
  exact law_call KX G.T.g G.T.b G.T.builtins G.T.nolimit hg hobj hints (Nat.le_trans hlen hn2) hr hF hb (fun H hO hS => hsp w H a ns hlen hO hS) fun H e s' => hCX w H s₁ e s'
end L2

/- THE LAST THEOREM (shape; LID, My.* are yours):
   My.Adr: a structure of the addresses that your layer names (classes, functions); My.Txt K t: a structure (Prop) of the equations over K;
   My.txt_mk : {K} {implicit addresses ..} (e1 : nsIn K mainGlobals "law" = some (some (.ref f))) (e2 : K.lookup f = some ⟨oc, od, .func (fnOf "law" "law" params body scope dV kV doc pm an cdv ct), sl⟩) (e3 : codeIn K cdv "law" = true) .. : ∃ t, My.Txt K t

set_option maxRecDepth 100000 in
set_option maxHeartbeats 0 in
theorem PySem.Challenge.cw_LID_holds : PySem.Challenge.rw_LID.Holds := by
  w_on; o_law; k_head; (case hw => w_witness2)
  k_fill
  refine L2.walk_of (l := PySem.Challenge.rw_LID) (n := 63) (k := 40) (x := "script") (CX := fun w => ..) (sp := fun _ => My.sp_law) rfl (by decide) rfl ⟨rfl, by decide, by decide⟩ (fun w h Y => PySem.W.kIn_of Y) ?F ?S ?C
  case F =>
    intro w mg fa h KX G hmg
    have T : ∃ t, My.Txt (L2.KOf KX) t := by
      dsimp only [L2.KOf]                          -- K must stand as «<heap const> w.params» for k_is
      refine' My.txt_mk ?e1 ?e2 ?e3 ..
      (case e1 => PySem.W.k_is)                    -- in the order: a name -> its address -> its object -> its parts
      (case e2 => PySem.W.k_is)
      ..
    obtain ⟨t, T⟩ := T
    have e0 := hmg.symm.trans (PySem.W.mg_of KX G T.law)
    cases e0                                       -- fa is the law's own address
    exact ⟨_, fun s u => .of_eq rfl, fun base kb nb => My.law_fn T kb nb⟩     -- if «.of_eq rfl» comes too early: refine' ⟨_, ?b, fun base kb nb => My.law_fn T kb nb⟩; exact fun s u => .of_eq rfl
  case S => exact fun w H a ns hl hO hS => ..
  case C => exact ..
(the tactic k_is has no namespace: write k_is) -/

/-! SHORT WORDS over the layer: a def of the text, its body, what a loop and a test want. -/
namespace L2
open PySem PySem.Spec PyProof.Rows

/-! ### the text by places -/
def defArgs (s : Stmt) : Arguments := match s with
  | .FunctionDef _ a _ _ _ _ _ _ _ _ => a
  | _ => { posonlyargs := [], args := [], vararg := none, kwonlyargs := [], kw_defaults := [], kwarg := none, defaults := [] }
def defBody (s : Stmt) : List Stmt := match s with
  | .FunctionDef _ _ b _ _ _ _ _ _ _ => b
  | _ => []
def defScope (s : Stmt) : Scope := match s with
  | .FunctionDef _ _ _ _ _ _ sc _ _ _ => sc
  | _ => { kind := .function, names := [], isGenerator := false, isCoroutine := false }

/-! ### no exception leaves a def -/
abbrev CX0 : CXT := fun _ _ _ _ _ _ => False
abbrev E0 : XK := fun _ _ _ => False
theorem pass0 {X : Cx} : Passes CX0 X E0 := fun _ _ _ _ _ _ _ h => h.elim

/-! ### a def (or method) of the text as it stands behind the top -/
structure Fun (K : PySem.W.Frag) (x qual : Str) (st : Stmt) (f : Addr) (fd : FuncData) : Prop where
  ex : ∃ (oc : Value) (od : Option Addr) (kV doc pm : Value) (an : Option Addr) (cdv ct : Value) (osl : Array (Option Value)),
    fd = PySem.W.fnOf x qual (defArgs st) (defBody st) (defScope st) .none kV doc pm an cdv ct ∧ K.lookup f = some ⟨oc, od, .func fd, osl⟩ ∧ PySem.W.codeIn K cdv qual = true
  kp : PySem.W.keepIn K (.ref f) = true
section
variable {P : Program} {w : World} {K : PySem.W.Frag} {mg : Str → Option Value} {base : Heap}
/-- THE RULE for a def: its body as a term of rules, and the reading of that term -/
theorem Fun.ok {x qual : Str} {st : Stmt} {f : Addr} {fd : FuncData} {N ps : List Str} {k : Nat} {sp : Sp} (F : Fun K x qual st f fd) (S : FnScope N ps (defScope st)) (len : ∀ vs H Q E, sp vs H Q E → vs.length = ps.length)
    (hbody : ∀ (cdv : Value) (A : Around) (outer : List Env) (s : Shared) (H : Hp) (vs : List V) (Q : VK) (E : XK), Room k (A.deeper (envOfC qual (defScope st) s.heap.objs.size f cdv)) → sp vs H Q E →
      ∃ t, PSs (cxOf CX0 P w K mg base N qual (defScope st) f cdv A outer s H E).nox (defBody st) t ∧ t { nx := fun _ H' => Q .non H', rt := Q } (start N vs) H) : FnOk P w K mg base CX0 (k + 1) f fd ps sp := by
  obtain ⟨oc, od, kV, doc, pm, an, cdv, ct, osl, rfl, lk, hcd⟩ := F.ex
  refine fn_of lk hcd S len fun A outer s H vs Q E hr hsp => ?_
  obtain ⟨t, h, q⟩ := hbody cdv A outer s H vs Q E hr hsp
  exact ⟨t, h.nox, q⟩
/-- how its arguments bind (no defaults): h is «fun _ _ _ _ _ _ us hl => match us, hl with | [_, _], _ => rfl», one _ a parameter -/
theorem Fun.binds {x qual : Str} {st : Stmt} {f : Addr} {fd : FuncData} {ps : List Str} (F : Fun K x qual st f fd)
    (h : ∀ (kV doc pm : Value) (an : Option Addr) (cdv ct : Value) (us : List Value), us.length = ps.length → bindArgs (PySem.W.fnOf x qual (defArgs st) (defBody st) (defScope st) .none kV doc pm an cdv ct) ⟨us, []⟩ = pure (ps.zip us)) : Binds K fd ps [] := by
  obtain ⟨oc, od, kV, doc, pm, an, cdv, ct, osl, rfl, lk, hcd⟩ := F.ex
  exact .all (h kV doc pm an cdv ct)
theorem fun_mk {x qual : Str} {st : Stmt} {f : Addr} {oc : Value} {od an : Option Addr} {osl : Array (Option Value)} {kV doc pm cdv ct : Value} (l : K.lookup f = some ⟨oc, od, .func (PySem.W.fnOf x qual (defArgs st) (defBody st) (defScope st) .none kV doc pm an cdv ct), osl⟩)
    (c : PySem.W.codeIn K cdv qual = true) (k : PySem.W.keepIn K (.ref f) = true) : Fun K x qual st f (PySem.W.fnOf x qual (defArgs st) (defBody st) (defScope st) .none kV doc pm an cdv ct) := ⟨⟨oc, od, kV, doc, pm, an, cdv, ct, osl, rfl, l, c⟩, k⟩
end
/-! ### expressions in short: the name that stands in the i-th slot -/
section
variable {X : Cx}
theorem pv (i : Nat) {x : Str} {pos : Pos} (hN : X.N[i]? = some x := by rfl) (hv : Vis X.env.scope x := by first | exact Or.inl rfl | exact Or.inr (Or.inl rfl) | exact Or.inr (Or.inr rfl)) (hd : (x == ("__debug__" : Str)) = false := by decide)
    (hcd : (x == ("__classdict__" : Str)) = false := by decide) : PE X (.Name x pos) (tVar i) := pe_var hN hv hd hcd
end

/-! ### tests -/
theorem iteF {A B : Prop} (h : B) : if false = true then A else B := by
  rw [if_neg Bool.false_ne_true]
  exact h
theorem iteT {A B : Prop} (h : A) : if true = true then A else B := by
  rw [if_pos rfl]
  exact h
/-! ### heaps -/
/-- all that was tracked is as it was -/
def Same (H H' : Hp) : Prop := ∀ b o, H b = some o → H' b = some o
theorem Same.refl (H : Hp) : Same H H := fun _ _ h => h
theorem Same.trans {H H1 H2 : Hp} (a : Same H H1) (b : Same H1 H2) : Same H H2 := fun c o h => b c o (a c o h)
theorem Same.free {H H' : Hp} (e : Same H H') {l : Addr} (h : H' l = Option.none) : H l = Option.none := by
  cases q : H l with
  | none => rfl
  | some o =>
    rw [e l o q] at h
    cases h
theorem Same.seq {K : PySem.W.Frag} {H H' : Hp} {a : Addr} {xs : List V} (e : Same H H') (h : SqL K H a xs) : SqL K H' a xs := by
  rcases h with (h | ⟨o, h⟩) | h
  · exact .inl (.inl (e _ _ h))
  · exact .inl (.inr ⟨o, e _ _ h⟩)
  · exact .inr h

end L2
/-! ### own rules over the layer -/
namespace L2
open PySem PySem.Spec PyProof.Rows
section
variable {X : Cx}
theorem op_mulB : OpR X (binaryOp .Mult) (rI IntMulOk fun i j => .int (i * j)) := opI fun _ _ _ _ _ _ _ hc q => mul_int q hc
theorem op_fdivB : OpR X (binaryOp .FloorDiv) (rI (fun _ j => 0 < j ∧ j.natAbs.log2 < 9000) fun i j => .int (i / j)) := opI fun i j _ _ _ _ _ hc q => by
  have h1 : (0 : Int) < j := hc.1
  exact floordiv_int (by omega) (by rw [Int.fdiv_eq_ediv_of_nonneg i (by omega)]; exact q) (.inl (PyProof.noPylong_of_log2 hc.2))
/-! ### == of two lists -/
theorem range_all_eq {α : Type} [DecidableEq α] {ns ms : List α} (d : α) (h : ns.length = ms.length) : ((List.range ns.length).all fun j => decide (ns.getD j d = ms.getD j d)) = decide (ns = ms) := by
  rw [Bool.eq_iff_iff, List.all_eq_true, decide_eq_true_iff]
  constructor
  · intro H
    refine List.ext_getElem h fun i h1 h2 => ?_
    have := of_decide_eq_true (H i (List.mem_range.mpr h1))
    rw [List.getD_eq_getElem?_getD, List.getD_eq_getElem?_getD, List.getElem?_eq_getElem h1, List.getElem?_eq_getElem h2] at this
    exact this
  · rintro rfl i _
    simp
/-- lists of whatever is compared by EqAt -/
theorem eqAt_items {α : Type} [DecidableEq α] {A : Around} {s : Shared} {us ws : List Value} {ns ms : List α} {d : α} (hl : us.length = ns.length) (hl2 : ws.length = ms.length)
    (h : ∀ (j : Nat) (u v : Value) (a b : α), us[j]? = some u → ws[j]? = some v → ns[j]? = some a → ms[j]? = some b → SeqAt.EqAt A s u v (decide (a = b))) :
    ∀ j (h1 : j < us.toArray.size) (h2 : j < ws.toArray.size), SeqAt.EqAt A s us.toArray[j] ws.toArray[j] (decide (ns.getD j d = ms.getD j d)) := by
  intro j h1 h2
  have h1' : j < us.length := by simpa using h1
  have h2' : j < ws.length := by simpa using h2
  have q := h j us[j] ws[j] ns[j] ms[j] (List.getElem?_eq_getElem h1') (List.getElem?_eq_getElem h2') (List.getElem?_eq_getElem (by omega)) (List.getElem?_eq_getElem (by omega))
  have e1 : ns.getD j d = ns[j] := by rw [List.getD_eq_getElem?_getD, List.getElem?_eq_getElem (by omega)]; rfl
  have e2 : ms.getD j d = ms[j] := by rw [List.getD_eq_getElem?_getD, List.getElem?_eq_getElem (by omega)]; rfl
  rw [e1, e2]
  simpa using q
theorem rcAt_lists {α : Type} [DecidableEq α] [Inhabited α] {A : Around} {s : Shared} {l b : Addr} {us ws : List Value} {ns ms : List α} (p1 : s.heap.IsList l us.toArray) (p2 : s.heap.IsList b ws.toArray) (hl : us.length = ns.length) (hl2 : ws.length = ms.length) (hu : A.units < cLine)
    (h : ∀ (j : Nat) (u v : Value) (a b : α), us[j]? = some u → ws[j]? = some v → ns[j]? = some a → ms[j]? = some b → SeqAt.EqAt A.in1 s u v (decide (a = b))) :
    SeqAt.RcAt A s (.ref l) (.ref b) (decide (ns = ms)) := by
  by_cases hs : ns.length = ms.length
  · have q := SeqAt.RcAt.lists (e := fun j => decide (ns.getD j default = ms.getD j default)) p1 p2 (by simp; omega) hu (eqAt_items hl hl2 h)
    have e : ((List.range us.toArray.size).all fun j => decide (ns.getD j default = ms.getD j default)) = decide (ns = ms) := by
      rw [List.size_toArray, hl]; exact range_all_eq default hs
    rw [e] at q
    exact q
  · have q := SeqAt.RcAt.lists_lengths p1 p2 (by simp; omega) hu
    have e : decide (ns = ms) = false := decide_eq_false fun z => hs (by rw [z])
    rw [e]
    exact q
theorem rcNeAt_lists {α : Type} [DecidableEq α] [Inhabited α] {A : Around} {s : Shared} {l b : Addr} {us ws : List Value} {ns ms : List α} (p1 : s.heap.IsList l us.toArray) (p2 : s.heap.IsList b ws.toArray) (hl : us.length = ns.length) (hl2 : ws.length = ms.length) (hu : A.units < cLine)
    (h : ∀ (j : Nat) (u v : Value) (a b : α), us[j]? = some u → ws[j]? = some v → ns[j]? = some a → ms[j]? = some b → SeqAt.EqAt A.in1 s u v (decide (a = b))) :
    SeqAt.RcNeAt A s (.ref l) (.ref b) (!decide (ns = ms)) := by
  by_cases hs : ns.length = ms.length
  · have q := SeqAt.RcNeAt.lists (e := fun j => decide (ns.getD j default = ms.getD j default)) p1 p2 (by simp; omega) hu (eqAt_items hl hl2 h)
    have e : ((List.range us.toArray.size).all fun j => decide (ns.getD j default = ms.getD j default)) = decide (ns = ms) := by
      rw [List.size_toArray, hl]; exact range_all_eq default hs
    rw [e] at q
    exact q
  · have q := SeqAt.RcNeAt.lists_lengths p1 p2 (by simp; omega) hu
    have e : decide (ns = ms) = false := decide_eq_false fun z => hs (by rw [z])
    rw [e]
    exact q
/-- a list of lists of ints -/
def SqR (K : PySem.W.Frag) (H : Hp) (a : Addr) (rs : List (List Int)) : Prop := ∃ ps : List Addr, SqL K H a (ps.map V.ref) ∧ Paired (fun (p : Addr) (ns : List Int) => SqL K H p (ns.map V.int)) ps rs
theorem Paired.get {α β : Type} {F : α → β → Prop} : ∀ {as : List α} {bs : List β} {i : Nat} {a : α} {b : β}, Paired F as bs → as[i]? = some a → bs[i]? = some b → F a b
  | _, _, _, _, _, .nil, e, _ => by simp at e
  | _, _, 0, _, _, .cons r _, e, e' => by simp at e e'; subst e; subst e'; exact r
  | _, _, i + 1, _, _, .cons _ t, e, e' => Paired.get (i := i) t (by simpa using e) (by simpa using e')
end

/-! ### the head with the size of the script's ints -/
open PySem.W in
theorem bits_of_lay {ns : List Int} (h : WData.layableAll [WData.list (ns.map WData.int)] = true) : ∀ n ∈ ns, Builtin.Int.intBits n ≤ 1048576 := by
  have w : WData.weight (.list (ns.map WData.int)) ≤ 2 ^ 20 := by
    unfold WData.layableAll WData.layable at h
    simp only [List.all_cons, List.all_nil, Bool.and_true, Bool.and_eq_true, decide_eq_true_eq] at h
    exact h.2
  have key : ∀ (ms : List Int), ∀ n ∈ ms, Builtin.Int.intBits n ≤ WData.weightAll (ms.map WData.int) := by
    intro ms
    induction ms with
    | nil => intro n hn; cases hn
    | cons m ms ih =>
      intro n hn
      rw [List.map_cons, WData.weightAll]
      rcases List.mem_cons.mp hn with rfl | hn
      · have e : WData.weight (.int n) = Builtin.Int.intBits n := by simp [WData.weight, Builtin.Int.intBits]
        omega
      · have := ih n hn
        omega
  intro n hn
  have q := key ns n hn
  have e : WData.weight (.list (ns.map WData.int)) = WData.weightAll (ns.map WData.int) := by simp [WData.weight]
  rw [e] at w
  exact Nat.le_trans q w
theorem walk_ofB {l : PySem.W.OpenLaw} {n k : Nat} {q : Program} {loose : List Str} {XP : (Str → Option Value) → Heap → Prop} {YP : World → Heap → Prop} {d : DefRec} {K : Params → PySem.W.Frag} {CX : World → CXT} {sp : World → Sp} {x : Str}
    (hn : l.most = some n) (hn2 : n ≤ sizeLine) (hdf : d.params.defaults = []) (hr : Room k callerA)
    (hY : ∀ (w : World) (h : Heap), YP w h → (K w.params).In h)
    (F : ∀ (w : World) (mg : Str → Option Value) (fa : Addr) (h : Heap), (K w.params).In h → h.Ns mainGlobals mg → mg d.name = some (.ref fa) →
      ∃ fd : FuncData, (∀ (s : Shared) (u : Value), BindsTo s fd ⟨[u], []⟩ [(x, u)]) ∧
        ∀ base : Heap, (K w.params).In base → base.Ns mainGlobals mg → FnOk l.prog w (K w.params) mg base (CX w) k fa fd [x] (sp w))
    (hsp : ∀ (w : World) (H : Hp) (a : Addr) (ns : List Int), ns.length ≤ n → (∀ m ∈ ns, Builtin.Int.intBits m ≤ 1048576) → Only H → SqL (K w.params) H a (ns.map V.int) → sp w [.ref a] H (fun v _ => v = .bl true) fun _ _ _ => False)
    (hCX : ∀ (w : World) (H : Hp) (s : Shared) (e : Value) (s' : Shared), CX w [] H s (fun _ _ _ => False) e s' → False) :
    PySem.W.WalkO q loose XP YP l.row.toRowW d [] (fun f vs => PySem.call f vs) := by
  intro w s₀ s₁ mg mb G Y fa o pm cd doc dV kV ho hd hcd hD hmg hg args vals as hpre hlay hrd hwl hlo
  obtain rfl : dV = .none := PySem.W.Dflts.none hD hdf
  obtain rfl : kV = .none := PySem.W.Dflts.noKw hD
  obtain ⟨a, vs, ns, rfl, rfl, hobj, hints, hlen⟩ := Att.script_of hn hpre hwl
  have KX := hY w _ Y
  obtain ⟨fd, hb, hF⟩ := F w mg fa _ KX G.T.g hmg
  refine PySem.W.enter_call (codeAny_mono (law_call KX G.T.g G.T.b G.T.builtins G.T.nolimit hg hobj hints (Nat.le_trans hlen hn2) hr hF hb (fun H hO hS => hsp w H a ns hlen (bits_of_lay hlay) hO hS) fun H e s' => hCX w H s₁ e s') fun r s' hq => ?_)
  obtain ⟨rfl, h2, h3, h4⟩ := hq
  exact ⟨.inl ⟨.bool true, .bool true, [], rfl, fun _ => rfl, .bool true, Att.post_true l _, fun _ => ⟨List.Pairwise.nil, fun _ hm => (nomatch hm)⟩⟩, h2, h3, h4⟩
end L2
/-! ### list comprehensions over the layer -/
namespace L2
open PySem PySem.Spec PyProof.Rows
/-- the context of a comprehension's block -/
def compCx (X : Cx) (N' : List Str) (scope : Scope) (cl : List (Str × Addr)) (C : Addr) (s3 : Shared) (H3 : Hp) (fp : List Addr) (pins : List (Addr × Obj)) : Cx :=
  { X with N := N', s₀ := s3, H₀ := H3, env := compEnvC scope cl C X.env, outer := X.stack, stack := X.stack, ex := fp, fn := fun _ => false, pn := X.pn ++ pins, xe := fun _ _ => False }
/-- what the block knows of the def's names: σ0 its state ahead of a turn -/
structure Frees (X : Cx) (N' : List Str) (scope : Scope) (cl : List (Str × Addr)) (σ σ0 : St) : Prop where
  sub : ∀ x c, cl.lookup x = some c → X.env.cells.lookup x = some c
  vals : ∀ (j : Nat) (x : Str) (v : V), N'[j]? = some x → σ0[j]? = some (some v) → ∃ (i : Nat) (c : Addr), X.N[i]? = some x ∧ σ[i]? = some (some v) ∧ Vis X.env.scope x ∧ X.env.kindOf x ≠ some .local ∧ cl.lookup x = some c ∧
    ((relabel scope X.env).names.lookup x = some .cell ∨ (relabel scope X.env).names.lookup x = some .free)
  has : ∀ x, ((relabel scope X.env).names.lookup x = some .cell ∨ (relabel scope X.env).names.lookup x = some .free) → ∃ c, cl.lookup x = some c
  len : σ0.length = N'.length
/-- no name of the def is asked -/
theorem Frees.none {X : Cx} {N' : List Str} {scope : Scope} {σ : St} (hn : ((relabel scope X.env).names.any fun y => y.2 == .cell || y.2 == .free) = false) : Frees X N' scope [] σ (List.replicate N'.length Option.none) where
  sub := fun x c e => by cases e
  vals := fun j x v _ e => by
    rw [List.getElem?_replicate] at e
    split at e <;> cases e
  has := fun x h => by
    have key : ∀ k, (relabel scope X.env).names.lookup x = some k → (k == .cell || k == .free) = false := fun k e => by
      have m := PySem.mem_of_lookup e
      cases q : (k == NameKind.cell || k == NameKind.free) with
      | false => rfl
      | true => rw [List.any_eq_true.mpr ⟨_, m, q⟩] at hn; cases hn
    rcases h with h | h
    · exact absurd (key _ h) (by decide)
    · exact absurd (key _ h) (by decide)
  len := List.length_replicate
section
variable {prog : Program} {w : World} {A : Around} {R : Result → Shared → Prop} {s : Shared}
/-- the loop of a comprehension, any target -/
theorem compLoop_gen {elt target iter : Expr} {ifs : List Expr} {scope : Scope} {pos : Pos} {it acc : Value} {env : Env} (I : Nat → Shared → Prop)
    (turn : ∀ n s, I n s → wpAny (model prog w) A (pyNext it) (fun r s₁ => match r with
      | none => R (.ok .next) s₁
      | some v => wpAny (model prog w) A (letOwnedTupleGo target it v) (fun _ s₀ => wpAny (model prog w) A (assign target env v) (fun _ s₂ =>
          wpAny (model prog w) A (forIn ifs true fun c r => if r = true then do let ok ← isTrue c env (eval c env); pure (ForInStep.yield ok) else pure (ForInStep.yield r)) (fun ok s₃ =>
            if ok = true then wpAny (model prog w) A (eval elt env) (fun x s₄ =>
              wpAny (model prog w) A (call (.builtin "list.append") [acc, x]) (fun _ s₅ => ∃ m, m < n ∧ I m s₅) (fun _ _ => False) s₄) (fun _ _ => False) s₃
            else ∃ m, m < n ∧ I m s₃) (fun _ _ => False) s₂) (fun _ _ => False) s₀) (fun _ _ => False) s₁) (fun _ _ => False) s)
    (n : Nat) (h : I n s) :
    codeAny (model prog w) A (.compLoop (.ListComp elt [⟨target, iter, ifs, 0⟩] scope pos) 0 it acc env) R s := by
  refine codeAny_loop rfl I (fun n s hI => ?_) n h
  show wpAny _ A ((compTurn (.ListComp elt [⟨target, iter, ifs, 0⟩] scope pos) 0 it acc env).onRaise (fun x => do noteFrame x env; theTreesLotGoes x)) _ _ s
  refine wpAny_noted ?_
  rw [compTurn_list]
  refine wpAny_bind (wpAny_standAt (wpAny_bind (wpAny_mono (turn n s hI) (fun r s₁ h₁ => ?_) fun _ _ h' => h'.elim)))
  cases r with
  | none => exact wpAny_pure h₁
  | some v =>
    refine wpAny_bind (wpAny_mono h₁ (fun _ s₀ h₀ => ?_) fun _ _ h' => h'.elim)
    refine wpAny_bind (wpAny_mono h₀ (fun _ s₂ h₂ => wpAny_bind (wpAny_mono h₂ (fun ok s₃ h₃ => ?_) fun _ _ h' => h'.elim)) fun _ _ h' => h'.elim)
    cases ok with
    | false => exact wpAny_pure ⟨rfl, h₃⟩
    | true =>
      exact wpAny_bind (wpAny_bind (wpAny_mono h₃ (fun x s₄ h₄ => wpAny_bind (wpAny_mono h₄ (fun _ s₅ h₅ => wpAny_pure (wpAny_pure ⟨rfl, h₅⟩)) fun _ _ h' => h'.elim)) fun _ _ h' => h'.elim))
end
/-- the reading of [elt for target in iter if test]: W by the turn, a measure, the items so far, the heap (the new list stands at D) -/
def compW (J : It) (g : TG) (tt : TT) (te : TE) (σ0 : St) (H1 : Hp) (Q : VK) : Prop := ∀ D, H1 D = none → ∃ W : Nat → Nat → List V → Hp → Prop, (∃ m, W 0 m [] (upd H1 D (.lst []))) ∧
  ∀ i m ys H, W i m ys H → (J.stop i H ∧ H D = some (.lst ys) ∧ Q (.ref D) H) ∨
    (J.go i H ∧ ∀ x H', J.yld i H x H' → g x σ0 H' fun σ2 H2 => tt σ2 H2 fun c H3 =>
      if c = true then te σ2 H3 fun v H4 => H4 D = some (.lst ys) ∧ ys.length < sizeLine ∧ ∃ m', m' < m ∧ W (i + 1) m' (ys ++ [v]) (upd H4 D (.lst (ys ++ [v])))
      else ∃ m', m' < m ∧ W (i + 1) m' ys H3)
/-- a target that keeps what the block knows -/
def Keepg (g : TG) (σ0 : St) : Prop := ∀ x H (Q : St → Hp → Prop), g x σ0 H Q → g x σ0 H fun σ2 H2 => Q σ2 H2 ∧ σ2.length = σ0.length ∧ ∀ (j : Nat) v, σ0[j]? = some (some v) → σ2[j]? = some (some v)
section
variable {X : Cx} {tg elt iter : Expr} {ifs : List Expr} {scope : Scope} {cl : List (Str × Addr)} {N' : List Str} {σ0 : St → St} {g : TG} {tt : TT} {te : TE}
/-- the block: from the iterator on. use: what is done with the list (the store of an assignment) -/
theorem comp_block {pos : Pos} {pins : List (Addr × Obj)} {σ : St} {H1 : Hp} {s2 : Shared} {it : Addr} {fp : List Addr} {tn : Nat → Heap → Prop} {J : It} {Q : VK} {RR : Value → Addr → Result → Shared → Prop}
    (hc : X.calm = true) (hcell : ∀ y ∈ scope.names, y.2 ≠ .cell) (hkind : scope.kind = .function)
    (I : Inv X pins σ H1 s2) (T : Turn X.prog X.w X.K tg J fp it tn) (st : tn 0 s2.heap) (hfp : ∀ b ∈ fp, FpOk X pins H1 b) (fr : Frees X N' scope cl σ (σ0 σ)) (hk : Keepg g (σ0 σ))
    (hg : ∀ C s3 H3 fp pins, PG (compCx X N' scope cl C s3 H3 fp pins) tg g)
    (ht : ∀ C s3 H3 fp pins (pl : List (Addr × Obj)) (s : Shared) (σ : St) (H : Hp) (Q : Bool → Hp → Prop), Inv (compCx X N' scope cl C s3 H3 fp pins) pl σ H s → tt σ H Q →
      wpAny (model X.prog X.w) X.A (forIn ifs true fun c r => if r = true then do let ok ← isTrue c (compEnvC scope cl C X.env) (eval c (compEnvC scope cl C X.env)); pure (ForInStep.yield ok) else pure (ForInStep.yield r)) (TP (compCx X N' scope cl C s3 H3 fp pins) pl σ Q) (fun _ _ => False) s)
    (he : ∀ C s3 H3 fp pins, PE (compCx X N' scope cl C s3 H3 fp pins) elt te) (hw : compW J g tt te (σ0 σ) H1 Q)
    (hRR : ∀ D C s' H' m, Inv X pins σ H' s' → s'.heap.Ns C m → H' C = none → C ≠ X.env.locals → X.s₀.heap.objs.size ≤ C → (∀ x c, X.env.cells.lookup x = some c → c ≠ C) → (∀ p ∈ X.pn ++ pins, p.1 ≠ C) → Q (.ref D) H' → RR (.ref D) C (.ok .next) s') :
    wpAny (model X.prog X.w) X.A (newList []) (fun acc s₃ => wpAny (model X.prog X.w) X.A (newFunctionEnv scope X.env.globals cl [] X.env.qual none .none (some X.env)) (fun cenv s₄ =>
      codeAny (model X.prog X.w) X.A (.compStart (.ListComp elt [⟨tg, iter, ifs, 0⟩] scope pos) 0 (.ref it) acc { cenv with scope := relabel scope X.env }) (RR acc cenv.locals) s₄) X.xe s₃) X.xe s2 := by
  refine wpAny_newObj_type (hd := by size_fits) (wpAny_newFunctionEnv hcell (by intro y hy; simp at hy) (fun h₁ hns₁ hsb₁ => ?_) hkind)
  dsimp only at hns₁ hsb₁ ⊢
  have I3 : Inv X pins σ (upd H1 s2.heap.objs.size (.lst [])) { s2 with heap := s2.heap.push { cls := .type "list", dict := none, data := .seq ([] : List Value).toArray } } := I.lnew (t' := s2.toks) (its := []) (ys := []) .nil (Nat.zero_le _)
  obtain ⟨W, ⟨m0, w0⟩, turn⟩ := hw s2.heap.objs.size I.fresh
  have hfpo := T.obj 0 _ st
  have fpl : ∀ b ∈ fp, b < s2.heap.objs.size := fun b hb => by
    obtain ⟨o, e, _⟩ := hfpo b hb
    exact Heap.lt_size e
  have fD : ∀ b ∈ fp, upd H1 s2.heap.objs.size (.lst []) b = none := fun b hb => by
    rw [upd_ne (Nat.ne_of_lt (fpl b hb))]
    exact (hfp b hb).1
  generalize hs3 : ({ s2 with heap := s2.heap.push { cls := .type "list", dict := none, data := .seq ([] : List Value).toArray } } : Shared) = s3 at I3
  have es3 : s3.heap = s2.heap.push { cls := .type "list", dict := none, data := .seq ([] : List Value).toArray } := by rw [← hs3]
  have st3 : tn 0 s3.heap := T.keep _ _ _ st fun b hb o e => by rw [es3]; exact Heap.get?_push_of_some _ e
  rw [← es3] at hns₁ hsb₁ ⊢
  have sz3 : s2.heap.objs.size < s3.heap.objs.size := by rw [es3, Heap.size_push]; exact Nat.lt_succ_self _
  generalize upd H1 s2.heap.objs.size (.lst []) = H3 at I3 fD w0
  have old : ∀ b o, s3.heap.get? b = some o → h₁.get? b = some o := fun b o e => hsb₁.extBut b o (Nat.ne_of_lt (Heap.lt_size e)) (Heap.get?_push_of_some _ e)
  have fpl3 : ∀ b ∈ fp, b < s3.heap.objs.size := fun b hb => Nat.lt_trans (fpl b hb) sz3
  have stk : ∀ b ∈ fp, b ∉ frs X.stack := fun b hb z => by
    rcases List.mem_cons.mp (I3.stkSub b z) with e | e
    · exact (hfp b hb).2.1 e
    · exact (hfp b hb).2.2.1 e
  -- the block's own state
  have ok : (compCx X N' scope cl s3.heap.objs.size s3 H3 fp pins).Ok := by
    refine ⟨I3.ok.mod, hkind, I3.ok.glob, I3.ok.blt, Nat.le_refl _, fun x y c h1 h2 => I3.ok.inj x y c (fr.sub x c h1) (fr.sub y c h2), fun x h => fr.has x h, fun x c h _ => (by cases h), I3.ok.hd, I3.ok.frames, .inl rfl,
      fun b hb => ⟨Nat.ne_of_lt (fpl3 b hb), fun x c e => (hfp b hb).2.2.2.2.1 x c (fr.sub x c e)⟩, I3.bs, Nat.le_trans I3.ok.bsz I3.sz, fun b o e hb => ?_, fun b hb => stk b hb, I3.stack, I3.stkFree⟩
    rcases (hfp b hb).2.2.2.1 with z | z
    · exact I3.ok.noex b o e z
    · have l1 : b < X.base.objs.size := Heap.lt_size e
      have l2 : X.base.objs.size ≤ X.s₀.heap.objs.size := I3.ok.bsz
      have l3 : X.s₀.heap.objs.size ≤ b := z
      exact absurd (Nat.lt_of_lt_of_le l1 (Nat.le_trans l2 l3)) (Nat.lt_irrefl _)
  have lt3 : X.env.locals < s3.heap.objs.size := I3.lt
  have start : Inv (compCx X N' scope cl s3.heap.objs.size s3 H3 fp pins) [] (σ0 σ) H3 { s3 with heap := h₁ } := by
    refine ⟨ok, rfl, I3.bare, Un.kept old, ⟨_, hns₁, fun j x v e1 e2 _ => ?_⟩, fun x c e => ?_, I3.hok.fresh (Nat.le_refl _), fun x c e => I3.freeC x c (fr.sub x c e), fun p hp => ?_, I3.hok.kept old, fr.len⟩
    · obtain ⟨i, c, q1, q2, q3, q4, q5, q6⟩ := fr.vals j x v e1 e2
      obtain ⟨m, hn, hl⟩ := I3.loc
      obtain ⟨u, r, l⟩ := hl i x v q1 q2 q3
      refine ⟨u, r, .inr ⟨q6, c, q5, ?_⟩⟩
      rcases l with ⟨k, _⟩ | ⟨_, c', e', z⟩
      · exact absurd k q4
      · rw [fr.sub x c q5] at e'
        cases e'
        obtain ⟨o, ho, hd⟩ := z
        exact ⟨o, old _ _ ho, hd⟩
    · obtain ⟨v, o, ho, hd⟩ := I3.cell x c (fr.sub x c e)
      exact ⟨v, o, old _ _ ho, hd⟩
    · have hp' : p ∈ X.pn ++ pins := by simpa [compCx] using hp
      obtain ⟨e, n, ne, nf, d⟩ := I3.pin p hp'
      refine ⟨old _ _ e, n, Nat.ne_of_lt (Heap.lt_size e), fun z => ?_, d⟩
      rcases List.mem_cons.mp (I3.stkSub p.1 z) with q | q
      · exact ne q
      · exact nf q
  have hst₁ : tn 0 h₁ := T.keep _ _ _ st3 fun b _ o e => old b o e
  have fpok : ∀ {H' : Hp}, (∀ b ∈ fp, H' b = none) → ∀ b ∈ fp, FpOk (compCx X N' scope cl s3.heap.objs.size s3 H3 fp pins) [] H' b := fun {H'} hn b hb =>
    ⟨hn b hb, Nat.ne_of_lt (fpl3 b hb), stk b hb, .inl hb, fun x c e => (hfp b hb).2.2.2.2.1 x c (fr.sub x c e), fun p hp => (hfp b hb).2.2.2.2.2 p (by simpa [compCx] using hp)⟩
  have loop : codeAny (model X.prog X.w) X.A (.compLoop (.ListComp elt [⟨tg, iter, ifs, 0⟩] scope pos) 0 (.ref it) (.ref s2.heap.objs.size) (compEnvC scope cl s3.heap.objs.size X.env)) (RR (.ref s2.heap.objs.size) s3.heap.objs.size) { s3 with heap := h₁ } := by
    refine compLoop_gen (fun n s' => ∃ i ys H', Inv (compCx X N' scope cl s3.heap.objs.size s3 H3 fp pins) [] (σ0 σ) H' s' ∧ tn i s'.heap ∧ (∀ b ∈ fp, H' b = none) ∧ W i n ys H') ?_ m0 ⟨0, [], H3, start, hst₁, fD, w0⟩
    rintro n s4 ⟨i, ys, H4, I4, st4, fr4, w4⟩
    rcases turn i n ys H4 w4 with ⟨stop, eD, q⟩ | ⟨go, step⟩
    · refine thn (T.done (compCx X N' scope cl s3.heap.objs.size s3 H3 fp pins) rfl rfl rfl hc i [] s4 _ H4 _ I4 (fpok fr4) st4 stop) fun r s5 ⟨hr, I5⟩ => ?_
      subst hr
      obtain ⟨m5, n5, _⟩ := I5.loc
      have J5 : Inv X pins σ H4 s5 := I3.call' I5.os I5.base I5.hok I5.bare fun b hb => ⟨(hfp b hb).2.2.2.1, (hfp b hb).2.1, (hfp b hb).2.2.2.2.1, (hfp b hb).2.2.2.2.2⟩
      exact hRR _ _ s5 H4 m5 J5 n5 I5.free (Nat.ne_of_gt lt3) I3.sz (fun x c e z => by
        obtain ⟨v, o, ho, _⟩ := I3.cell x c e
        exact absurd (Heap.lt_size ho) (by rw [z]; exact Nat.lt_irrefl _)) (fun p hp z => by
        have e := (I3.pin p hp).1
        exact absurd (Heap.lt_size e) (by rw [z]; exact Nat.lt_irrefl _)) q
    · refine thn (T.item (compCx X N' scope cl s3.heap.objs.size s3 H3 fp pins) rfl rfl rfl hc i [] s4 _ H4 _ I4 (fpok fr4) st4 go) fun r s5 ⟨u, hr, h5⟩ => ?_
      subst hr
      refine thn h5 fun _ s6 ⟨x, H6, I6, r6, y6, st6, fr6⟩ => ?_
      have I6' := I6.pinned (fpok fr6) (T.obj _ _ st6)
      refine thn (hg _ _ _ _ _ _ s6 _ H6 x u _ I6' r6 (hk _ _ _ (step x H6 y6))) fun _ s7 ⟨σ7, H7, I7, q7, l7, k7⟩ => ?_
      have again : ∀ {s8 : Shared} {H8 : Hp} {m : Nat} {zs : List V}, Inv (compCx X N' scope cl s3.heap.objs.size s3 H3 fp pins) ([] ++ pinsAt fp s6.heap) σ7 H8 s8 → m < n → W (i + 1) m zs H8 →
          ∃ m, m < n ∧ ∃ i ys H', Inv (compCx X N' scope cl s3.heap.objs.size s3 H3 fp pins) [] (σ0 σ) H' s8 ∧ tn i s8.heap ∧ (∀ b ∈ fp, H' b = none) ∧ W i m ys H' := fun {s8 H8 m zs} I8 hm w8 => by
        refine ⟨m, hm, i + 1, zs, H8, (Inv.unpinned I8).weak l7.symm k7, T.keep _ _ _ st6 fun b hb o e => (I8.pin (b, o) (List.mem_append_right _ (List.mem_append_right _ (mem_pinsAt hb e)))).1, fun b hb => ?_, w8⟩
        obtain ⟨o, e, d⟩ := T.obj _ _ st6 b hb
        exact (I8.pin (b, o) (List.mem_append_right _ (List.mem_append_right _ (mem_pinsAt hb e)))).2.1
      refine thn (ht _ _ _ _ _ _ s7 σ7 H7 _ I7 q7) fun c s8 ⟨H8, I8, q8⟩ => ?_
      cases c with
      | false =>
        rw [if_neg Bool.false_ne_true] at q8 ⊢
        obtain ⟨m', hm, w8⟩ := q8
        exact again I8 hm w8
      | true =>
        rw [if_pos rfl] at q8 ⊢
        refine thn (he _ _ _ _ _ _ s8 σ7 H8 _ I8 q8) fun v s9 ⟨y, H9, I9, r9, e9, z9, m', hm, w9⟩ => ?_
        exact thn (mt_append _ s9 σ7 H9 (.ref s2.heap.objs.size) [y] (.ref s2.heap.objs.size) [v] (fun _ H' => H' = upd H9 s2.heap.objs.size (.lst (ys ++ [y]))) I9 rfl (.cons r9 .nil) ⟨_, ys, y, rfl, rfl, e9, z9, rfl⟩)
          fun _ s10 ⟨_, H10, I10, _, e10⟩ => by subst e10; exact again I10 hm w9
  subst hs3
  exact codeAny_compStart_list loop (T.self _ 0 _ _ _ hst₁ loop)
def tComp (wi : TI) (g : TG) (tt : TT) (te : TE) (σ0 : St → St) : TE := fun σ H Q => wi σ H fun J H1 => compW J g tt te (σ0 σ) H1 Q
variable {pos : Pos} {wi : TI}
theorem pe_compG (hc : X.calm = true) (hi : PI X tg iter wi) (fr : ∀ σ : St, σ.length = X.N.length → Frees X N' scope cl σ (σ0 σ)) (hk : ∀ σ, Keepg g (σ0 σ))
    (hg : ∀ C s3 H3 fp pins, PG (compCx X N' scope cl C s3 H3 fp pins) tg g)
    (ht : ∀ C s3 H3 fp pins (pl : List (Addr × Obj)) (s : Shared) (σ : St) (H : Hp) (Q : Bool → Hp → Prop), Inv (compCx X N' scope cl C s3 H3 fp pins) pl σ H s → tt σ H Q →
      wpAny (model X.prog X.w) X.A (forIn ifs true fun c r => if r = true then do let ok ← isTrue c (compEnvC scope cl C X.env) (eval c (compEnvC scope cl C X.env)); pure (ForInStep.yield ok) else pure (ForInStep.yield r)) (TP (compCx X N' scope cl C s3 H3 fp pins) pl σ Q) (fun _ _ => False) s)
    (he : ∀ C s3 H3 fp pins, PE (compCx X N' scope cl C s3 H3 fp pins) elt te)
    (hclos : closureFor scope X.env = pure cl) (hcell : ∀ y ∈ scope.names, y.2 ≠ .cell) (hkind : scope.kind = .function) (hnames : ∀ y ∈ scope.names, y.2 = .local → scope.names.lookup y.1 = some .local)
    (hs : ∀ x, foldedSetIterable iter X.env x = pure x) : PE X (.ListComp elt [⟨tg, iter, ifs, 0⟩] scope pos) (tComp wi g tt te σ0) := by
  intro pins s σ H Q I h
  rw [eval_ListComp]
  refine wpAny_comprehension_free (use := none) rfl hs hclos hkind hnames (thn (hi pins s σ H _ I h) fun v s1 h1 => thn h1 fun itv s2 h2 => ?_)
  obtain ⟨it, fp, tn, J, H2, e, I2, T, st2, f2, q⟩ := h2
  subst e
  refine comp_block (RR := fun acc C => compPost (model X.prog X.w) X.A X.xe none (EP X pins σ Q) acc C) hc hcell hkind I2 T st2 f2 (fr σ I.len) (hk σ) hg ht he q ?_
  intro D C s' H' m I' hn hC h1 h2 h3 h4 q'
  refine ⟨m, hn, fun h'' hs'' => ⟨.ref D, H', ?_, rfl, q'⟩⟩
  exact I'.turned (t' := s'.toks) (fun b o hb e => hs''.extBut b o hb e) hC h1 (.inr h2) h3 h4
end
end L2
namespace L2
open PySem PySem.Spec PyProof.Rows
section
variable {X : Cx} {iter elt c : Expr} {scope : Scope} {y z : Str} {py pos : Pos} {wi : TI} {te : TE} {tt : TT}
theorem tests1 {N' : List Str} {cl : List (Str × Addr)} (ht : ∀ C s3 H3 fp pins, PT (compCx X N' scope cl C s3 H3 fp pins) c tt) : ∀ C s3 H3 fp pins (pl : List (Addr × Obj)) (s : Shared) (σ : St) (H : Hp) (Q : Bool → Hp → Prop), Inv (compCx X N' scope cl C s3 H3 fp pins) pl σ H s → tt σ H Q →
    wpAny (model X.prog X.w) X.A (forIn [c] true fun c r => if r = true then do let ok ← isTrue c (compEnvC scope cl C X.env) (eval c (compEnvC scope cl C X.env)); pure (ForInStep.yield ok) else pure (ForInStep.yield r)) (TP (compCx X N' scope cl C s3 H3 fp pins) pl σ Q) (fun _ _ => False) s :=
  fun C s3 H3 fp pins pl s σ H Q I h => wpAny_tests_one (ht C s3 H3 fp pins pl s σ H Q I h)
/-- one name z of the def (a cell, the i-th) is asked -/
def σz (i : Nat) : St → St := fun σ => [none, (σ[i]?).join]
theorem Frees.one {i : Nat} {cz : Addr} {σ : St} (hz : X.N[i]? = some z) (hk : X.env.kindOf z = some .cell) (hcz : X.env.cells.lookup z = some cz) (hr : (relabel scope X.env).names.lookup z = some .cell)
    (hone : ((relabel scope X.env).names.all fun y => !(y.2 == .cell || y.2 == .free) || y.1 == z) = true) : Frees X [y, z] scope [(z, cz)] σ (σz i σ) where
  sub := fun x c e => by
    rw [List.lookup_cons] at e
    cases q : x == z with
    | true =>
      rw [q] at e
      cases e
      rw [eq_of_beq q]
      exact hcz
    | false =>
      rw [q] at e
      cases e
  vals := fun j x v e1 e2 => by
    match j with
    | 0 => cases e2
    | 1 =>
      cases e1
      have e3 : (σ[i]?).join = some v := by
        have : some ((σ[i]?).join) = some (some v) := e2
        exact Option.some.inj this
      have e4 : σ[i]? = some (some v) := by
        cases q : σ[i]? with
        | none => rw [q] at e3; cases e3
        | some o => rw [q] at e3; rw [show o = some v from e3]
      refine ⟨i, cz, hz, e4, .inr (.inl hk), (by rw [hk]; intro w; cases w), ?_, .inl hr⟩
      rw [List.lookup_cons, beq_self_eq_true]
    | j + 2 => cases e1
  has := fun x h => by
    refine ⟨cz, ?_⟩
    have e : x = z := by
      have key : ∀ k, (relabel scope X.env).names.lookup x = some k → (k == NameKind.cell || k == NameKind.free) = true → x = z := fun k e q => by
        have m := List.all_eq_true.mp hone _ (PySem.mem_of_lookup e)
        rw [q] at m
        exact eq_of_beq (by simpa using m)
      rcases h with h | h
      · exact key _ h rfl
      · exact key _ h rfl
    subst e
    rw [List.lookup_cons, beq_self_eq_true]
  len := rfl
end
end L2
/-! ### insert; max(.., default = d); keywords of a built-in -/
namespace L2
open PySem PySem.Spec PyProof.Rows
section
variable {X : Cx}
theorem Vals.insert {xs : List V} {us : List Value} {y : V} {u : Value} (k : Nat) (h : Vals xs us) (r : RelV y u) : Vals (xs.take k ++ y :: xs.drop k) (us.take k ++ u :: us.drop k) :=
  Vals.append (h.take k) (.cons r (h.drop k))
def rInsert : V → List V → Hp → VK → Prop := fun x vs H Q => ∃ l xs i y, x = .ref l ∧ vs = [.int i, y] ∧ H l = some (.lst xs) ∧ 0 ≤ i ∧ i ≤ xs.length ∧ xs.length < sizeLine ∧ Q .non (upd H l (.lst (xs.take i.toNat ++ y :: xs.drop i.toNat)))
theorem mt_insert : MtM X "list.insert" rInsert := by
  intro pins s σ H x vs v us Q I rx rv h
  obtain ⟨l, xs, i, y, rfl, rfl, hH, h0, h1, hz, q⟩ := h
  cases rx
  obtain ⟨u, w', rfl, ⟨t, rfl⟩, ru⟩ := vals2 rv
  obtain ⟨z, its, n, r, hl, e⟩ := I.lstM hH
  have hn := line63
  refine call_meets F.slot_list_insert ⟨_, e, rfl⟩ F.entry_list_insert (F.args_list_insert_3 _ _ _) (AutoListH.list_insert_list_int_val_1 l its.toArray n i t w' (by rw [fitsIndex_both (by omega) (by omega)]; exact Bool.false_ne_true) (by rw [List.size_toArray]; omega)) ⟨e, ?_⟩
  refine ⟨.non, _, I.lset (its' := its.take i.toNat ++ w' :: its.drop i.toNat) hH e ?_ (Vals.insert _ r ru) ?_, rfl, q⟩
  · have hk : (if i < 0 then (i + ((its.toArray.size : Nat) : Int)).toNat else min i.toNat its.toArray.size) = i.toNat := by
      rw [if_neg (by omega), List.size_toArray]
      omega
    dsimp only
    rw [hk]
    apply Array.ext'
    simp
    exact List.take_of_length_le (by simp)
  · rw [List.length_append, List.length_cons, List.length_take, List.length_drop]
    omega
end
/-! the loop of max with a default -/
section
variable {prog : Program} {w : World} {A : Around} {R : Result → Shared → Prop} {I : Addr} {fp wr : List Addr} {n : Nat} {P : Nat → Value → Prop} {St : Nat → Heap → Prop} {kw : List (Str × Value)}
end
section
variable {prog : Program} {w : World} {A : Around} {E : Value → Shared → Prop} {s : Shared}
end
section
variable {X : Cx}
end
section
variable {X : Cx}
end
theorem bt_len : bootBuiltins "len" = some (.builtin "len") := by decide +kernel
theorem bt_min : bootBuiltins "min" = some (.builtin "min") := by decide +kernel
theorem bt_isinstance : bootBuiltins "isinstance" = some (.builtin "isinstance") := by decide +kernel
theorem bt_list : bootBuiltins "list" = some (.type "list") := by decide +kernel
theorem same_new {H : Hp} {a : Addr} {o : HO} (h : H a = none) : Same H (upd H a o) := fun b u e => by
  rw [upd_ne (ne_of_none e h)]
  exact e
theorem Same.sql {K : PySem.W.Frag} {H H' : Hp} {a : Addr} {xs : List V} (s : Same H H') (h : SqL K H a xs) : SqL K H' a xs := by
  rcases h with (h | ⟨o, h⟩) | h
  · exact .inl (.inl (s _ _ h))
  · exact .inl (.inr ⟨o, s _ _ h⟩)
  · exact .inr h
theorem Same.none {H H' : Hp} {a : Addr} (s : Same H H') (h : H' a = none) : H a = none := by
  cases e : H a with
  | none => rfl
  | some o => rw [s _ _ e] at h; cases h
theorem Paired.mono {α β : Type} {F G : α → β → Prop} : ∀ {as : List α} {bs : List β}, Paired F as bs → (∀ a b, a ∈ as → F a b → G a b) → Paired G as bs
  | _, _, .nil, _ => .nil
  | _, _, .cons r t, h => .cons (h _ _ List.mem_cons_self r) (Paired.mono t fun a b m => h a b (List.mem_cons_of_mem _ m))
theorem Paired.append {α β : Type} {F : α → β → Prop} : ∀ {as cs : List α} {bs ds : List β}, Paired F as bs → Paired F cs ds → Paired F (as ++ cs) (bs ++ ds)
  | _, _, _, _, .nil, s => s
  | _, _, _, _, .cons r t, s => .cons r (Paired.append t s)
theorem Paired.take {α β : Type} {F : α → β → Prop} : ∀ (n : Nat) {as : List α} {bs : List β}, Paired F as bs → Paired F (as.take n) (bs.take n)
  | 0, _, _, _ => .nil
  | _ + 1, _, _, .nil => .nil
  | n + 1, _, _, .cons r t => .cons r (Paired.take n t)
theorem Paired.drop {α β : Type} {F : α → β → Prop} : ∀ (n : Nat) {as : List α} {bs : List β}, Paired F as bs → Paired F (as.drop n) (bs.drop n)
  | 0, _, _, h => h
  | _ + 1, _, _, .nil => .nil
  | n + 1, _, _, .cons _ t => Paired.drop n t
theorem Paired.ins {α β : Type} {F : α → β → Prop} {as : List α} {bs : List β} {a : α} {b : β} (n : Nat) (h : Paired F as bs) (r : F a b) : Paired F (as.take n ++ a :: as.drop n) (bs.take n ++ b :: bs.drop n) :=
  Paired.append (Paired.take n h) (.cons r (Paired.drop n h))
theorem SqR.same {K : PySem.W.Frag} {H H' : Hp} {a : Addr} {rs : List (List Int)} (s : Same H H') (h : SqR K H a rs) : SqR K H' a rs := by
  obtain ⟨ps, h1, h2⟩ := h
  exact ⟨ps, Same.sql s h1, Paired.mono h2 fun _ _ _ q => Same.sql s q⟩
/-- rows that are tracked -/
def RowsAt (H : Hp) (a : Addr) (ps : List Addr) (rs : List (List Int)) : Prop := H a = some (.lst (ps.map V.ref)) ∧ Paired (fun (p : Addr) (r : List Int) => H p = some (.lst (r.map V.int))) ps rs
theorem RowsAt.same {H H' : Hp} {a : Addr} {ps : List Addr} {rs : List (List Int)} (s : Same H H') (h : RowsAt H a ps rs) : RowsAt H' a ps rs := ⟨s _ _ h.1, Paired.mono h.2 fun _ _ _ q => s _ _ q⟩
/-! ### the same rules, the written part told -/
section
variable {X : Cx} {K : PySem.W.Frag}
theorem sl_listK (h : X.K = K) : SlR X (rSlL K) := by subst h; exact sl_list
theorem call_list_ofK (h : X.K = K) : CallR X (.type "list") (fun xs H Q => ∃ p ys, xs = [.ref p] ∧ (SqL K H p ys ∨ SqT K H p ys) ∧ ∀ l, H l = none → Q (.ref l) (upd H l (.lst ys))) := by subst h; exact call_list_of
theorem pt_truthK {a : Expr} {ta : TE} (h : X.K = K) (ha : PE X a ta) (he : ∀ whole, isTrue a X.env whole = (do let v ← whole; standAt a.pos; holding [v] (truthy v))) :
    PT X a (fun σ H Q => ta σ H fun x H' => ∃ k, TruV K x H' k ∧ Q k H') := by subst h; exact pt_truth ha he
end
end L2
/-! ### enumerate; unpacking a list -/
namespace L2
open PySem PySem.Spec PyProof.Rows
section
variable {X : Cx}
end
end L2
namespace L2
open PySem PySem.Spec PyProof.Rows
section
variable {prog : Program} {w : World} {A : Around} {E : Value → Shared → Prop}
end
section
variable {X : Cx} {pos : Pos}
end
end L2
namespace L2
open PySem PySem.Spec PyProof.Rows

/-! ### lists of pairs as tables -/
section
variable {κ : Type} [DecidableEq κ]
def valV (kvs : List (κ × V)) (k : κ) : Option V := (kvs.find? fun kv => decide (kv.1 = k)).map (·.2)
/-- in its place, or at the end -/
def putK (kvs : List (κ × V)) (k : κ) (v : V) : List (κ × V) :=
  if (kvs.any fun kv => decide (kv.1 = k)) = true then kvs.map (fun kv => if kv.1 = k then (kv.1, v) else kv) else kvs ++ [(k, v)]
def dropK (kvs : List (κ × V)) (k : κ) : List (κ × V) := kvs.filter fun kv => decide (kv.1 ≠ k)

theorem valV_pos {p : κ × V} {r : List (κ × V)} {k : κ} (e : p.1 = k) : valV (p :: r) k = some p.2 := by simp [valV, List.find?_cons, e]
theorem valV_neg {p : κ × V} {r : List (κ × V)} {k : κ} (e : ¬ p.1 = k) : valV (p :: r) k = valV r k := by simp [valV, List.find?_cons, e]
theorem valV_any (k : κ) : ∀ kvs : List (κ × V), (kvs.any fun kv => decide (kv.1 = k)) = (valV kvs k).isSome
  | [] => rfl
  | p :: r => by
    rw [List.any_cons]
    by_cases e : p.1 = k
    · simp only [valV_pos e, decide_eq_true e, Bool.true_or, Option.isSome_some]
    · rw [valV_neg e, decide_eq_false e, Bool.false_or]; exact valV_any k r
theorem RelO.isSome_eq {o : Option V} {u : Option Value} (r : RelO o u) : o.isSome = u.isSome := by
  cases o with
  | none => cases u with
    | none => rfl
    | some _ => exact (show False from r).elim
  | some _ => cases u with
    | none => exact (show False from r).elim
    | some _ => rfl
theorem RelO.getD {o : Option V} {u : Option Value} {d : V} {d' : Value} (r : RelO o u) (rd : RelV d d') : RelV (o.getD d) (u.getD d') := by
  cases o with
  | none => cases u with
    | none => exact rd
    | some _ => exact (show False from r).elim
  | some _ => cases u with
    | none => exact (show False from r).elim
    | some _ => exact r

/-- raw tables of the same keys -/
theorem KV.val {kvs : List (κ × V)} {vs : List (κ × Value)} (r : KV kvs vs) (k : κ) : RelO (valV kvs k) (valueAt vs k) := by
  unfold KV at r
  induction r with
  | nil => exact True.intro
  | @cons p q ps qs h t ih =>
    obtain ⟨h1, h2⟩ := h
    by_cases e : p.1 = k
    · have e' : q.1 = k := h1.symm.trans e
      have b : valueAt (q :: qs) k = some q.2 := by simp [valueAt, List.find?_cons, e']
      rw [valV_pos e, b]; exact h2
    · have e' : ¬ q.1 = k := fun z => e (h1.trans z)
      have b : valueAt (q :: qs) k = valueAt qs k := by simp [valueAt, List.find?_cons, e']
      rw [valV_neg e, b]; exact ih
theorem KV.any {kvs : List (κ × V)} {vs : List (κ × Value)} (r : KV kvs vs) (k : κ) : (kvs.any fun kv => decide (kv.1 = k)) = vs.any fun kv => decide (kv.1 = k) := by
  unfold KV at r
  induction r with
  | nil => rfl
  | cons h t ih => rw [List.any_cons, List.any_cons, ih, h.1]
theorem KV.repl {kvs : List (κ × V)} {vs : List (κ × Value)} (r : KV kvs vs) (k : κ) {y : V} {u : Value} (ry : RelV y u) :
    KV (kvs.map fun kv => if kv.1 = k then (kv.1, y) else kv) (vs.map fun kv => if kv.1 = k then (kv.1, u) else kv) := by
  unfold KV at r ⊢
  induction r with
  | nil => exact .nil
  | @cons p q ps qs h t ih =>
    rw [List.map_cons, List.map_cons]
    refine .cons ?_ ih
    obtain ⟨h1, h2⟩ := h
    by_cases e : p.1 = k
    · rw [if_pos e, if_pos (h1.symm.trans e)]; exact ⟨h1, ry⟩
    · rw [if_neg e, if_neg (fun z => e (h1.trans z))]; exact ⟨h1, h2⟩
theorem KV.put {kvs : List (κ × V)} {vs : List (κ × Value)} (r : KV kvs vs) (k : κ) {y : V} {u : Value} (ry : RelV y u) : KV (putK kvs k y) (stored vs k u) := by
  unfold putK stored
  rw [r.any k]
  by_cases e : (vs.any fun kv => decide (kv.1 = k)) = true
  · rw [if_pos e, if_pos e]; exact r.repl k ry
  · rw [if_neg e, if_neg e]; exact Paired.snoc r ⟨rfl, ry⟩
theorem KV.drop {kvs : List (κ × V)} {vs : List (κ × Value)} (r : KV kvs vs) (k : κ) : KV (dropK kvs k) (without vs k) := by
  unfold KV at r ⊢
  unfold dropK without
  induction r with
  | nil => exact .nil
  | @cons p q ps qs h t ih =>
    obtain ⟨h1, h2⟩ := h
    rw [List.filter_cons, List.filter_cons]
    by_cases e : p.1 = k
    · have a : ¬ decide (p.1 ≠ k) = true := by simp [e]
      have b : ¬ decide (q.1 ≠ k) = true := by simp [h1.symm.trans e]
      rw [if_neg a, if_neg b]; exact ih
    · have e' : ¬ q.1 = k := fun z => e (h1.trans z)
      have a : decide (p.1 ≠ k) = true := by simp [e]
      have b : decide (q.1 ≠ k) = true := by simp [e']
      rw [if_pos a, if_pos b]; exact .cons ⟨h1, h2⟩ ih
theorem KV.keys {kvs : List (κ × V)} {vs : List (κ × Value)} (r : KV kvs vs) : kvs.map (·.1) = vs.map (·.1) := by
  unfold KV at r
  induction r with
  | nil => rfl
  | cons h t ih => rw [List.map_cons, List.map_cons, ih, h.1]
theorem KV.length {kvs : List (κ × V)} {vs : List (κ × Value)} (r : KV kvs vs) : kvs.length = vs.length := Paired.length r
end


/-! ### a tracked dict, its keys ints and texts or tuples of these -/
/-- raw entries of a dict with tuple keys -/
abbrev KT (H : Hp) : List (List Key × V) → List (List Key × Addr × Value) → Prop := Paired fun p q => p.1 = q.1 ∧ H q.2.1 = some (.tup (p.1.map kV)) ∧ RelV p.2 q.2.2
theorem KT.val {H : Hp} {kvs : List (List Key × V)} {xs : List (List Key × Addr × Value)} (r : KT H kvs xs) (k : List Key) : RelO (valV kvs k) ((atKey xs k).map (·.2)) := by
  induction r with
  | nil => exact True.intro
  | @cons p q ps qs h t ih =>
    obtain ⟨h1, _, h2⟩ := h
    by_cases e : p.1 = k
    · have e' : q.1 = k := h1.symm.trans e
      have b : atKey (q :: qs) k = some q.2 := by simp [atKey, List.find?_cons, e']
      rw [valV_pos e, b]; exact h2
    · have e' : ¬ q.1 = k := fun z => e (h1.trans z)
      have b : atKey (q :: qs) k = atKey qs k := by simp [atKey, List.find?_cons, e']
      rw [valV_neg e, b]; exact ih
theorem KT.repl {H : Hp} {kvs : List (List Key × V)} {xs : List (List Key × Addr × Value)} (r : KT H kvs xs) (k : List Key) {y : V} {u : Value} (ry : RelV y u) :
    KT H (kvs.map fun kv => if kv.1 = k then (kv.1, y) else kv) (xs.map (putAt k u)) := by
  induction r with
  | nil => exact .nil
  | @cons p q ps qs h t ih =>
    rw [List.map_cons, List.map_cons]
    refine .cons ?_ ih
    obtain ⟨h1, h2, h3⟩ := h
    unfold putAt
    by_cases e : p.1 = k
    · rw [if_pos e, if_pos (h1.symm.trans e)]; exact ⟨h1, h2, ry⟩
    · rw [if_neg e, if_neg (fun z => e (h1.trans z))]; exact ⟨h1, h2, h3⟩
theorem KT.put {H : Hp} {kvs : List (List Key × V)} {xs : List (List Key × Addr × Value)} (r : KT H kvs xs) (k : List Key) {b : Addr} {y : V} {u : Value} (hb : H b = some (.tup (k.map kV))) (ry : RelV y u) :
    KT H (putK kvs k y) (storedH xs k b u) := by
  have e : (kvs.any fun kv => decide (kv.1 = k)) = (atKey xs k).isSome := by
    rw [valV_any, (r.val k).isSome_eq, Option.isSome_map]
  unfold putK storedH
  rw [e]
  by_cases q : (atKey xs k).isSome = true
  · rw [if_pos q, if_pos q]; exact r.repl k ry
  · rw [if_neg q, if_neg q]; exact Paired.snoc r ⟨rfl, hb, ry⟩
theorem KT.keeps {H H' : Hp} {kvs : List (List Key × V)} {xs : List (List Key × Addr × Value)} (r : KT H kvs xs) (ht : ∀ b ys, H b = some (.tup ys) → H' b = some (.tup ys)) : KT H' kvs xs :=
  Paired.mapP r fun _ _ z => ⟨z.1, ht _ _ z.2.1, z.2.2⟩

section
variable {P : Program} {w : World} {H : Hp} {h : Heap} {a : Addr}
end

/-- what the dict at a holds at the key y -/
def DGet (H : Hp) (a : Addr) (y : V) (r : Option V) : Prop :=
  (∃ kvs k, Rd H a (.dK kvs) ∧ y = kV k ∧ r = valV kvs k) ∨ ∃ kvs k b, Rd H a (.dT kvs) ∧ y = .ref b ∧ H b = some (.tup (k.map kV)) ∧ r = valV kvs k
/-- the heap behind a[y] = v -/
def DPut (H : Hp) (a : Addr) (y v : V) (H' : Hp) : Prop :=
  (∃ kvs k, H a = some (.dK kvs) ∧ y = kV k ∧ kvs.length < sizeLine ∧ H' = upd H a (.dK (putK kvs k v))) ∨
  ∃ kvs k b, H a = some (.dT kvs) ∧ y = .ref b ∧ H b = some (.tup (k.map kV)) ∧ kvs.length < sizeLine ∧ H' = upd H a (.dT (putK kvs k v))
theorem DGet.k {H : Hp} {a : Addr} {kvs : List (Key × V)} {k : Key} (e : H a = some (.dK kvs)) : DGet H a (kV k) (valV kvs k) := .inl ⟨kvs, k, .inl e, rfl, rfl⟩
theorem DGet.t {H : Hp} {a b : Addr} {kvs : List (List Key × V)} {k : List Key} (e : H a = some (.dT kvs)) (eb : H b = some (.tup (k.map kV))) : DGet H a (.ref b) (valV kvs k) := .inr ⟨kvs, k, b, .inl e, rfl, eb, rfl⟩
theorem DPut.k {H : Hp} {a : Addr} {kvs : List (Key × V)} {k : Key} {v : V} (e : H a = some (.dK kvs)) (hl : kvs.length < sizeLine) : DPut H a (kV k) v (upd H a (.dK (putK kvs k v))) := .inl ⟨kvs, k, e, rfl, hl, rfl⟩
theorem DPut.t {H : Hp} {a b : Addr} {kvs : List (List Key × V)} {k : List Key} {v : V} (e : H a = some (.dT kvs)) (eb : H b = some (.tup (k.map kV))) (hl : kvs.length < sizeLine) :
    DPut H a (.ref b) v (upd H a (.dT (putK kvs k v))) := .inr ⟨kvs, k, b, e, rfl, eb, hl, rfl⟩


section
variable {X : Cx} {pins : List (Addr × Obj)} {σ : St} {H : Hp} {s : Shared} {a : Addr} {y v : V} {u r : Value} {o : Option V} {A : Around} {E : Value → Shared → Prop}

theorem Inv.big (I : Inv X pins σ H s) : sysModules < s.heap.objs.size := by
  have h : mainGlobals < s.heap.objs.size := (I.mod.glob.keeps I.bk).lt
  exact Nat.lt_trans (by decide) h

end

section
variable {X : Cx} {pins : List (Addr × Obj)} {σ : St} {H : Hp} {s : Shared} {a : Addr} {kvs : List (Key × V)} {k : Key} {u : Value} {A : Around} {E : Value → Shared → Prop}
end


/-! ### readings and rules -/
section
variable {X : Cx} {o i e value : Expr} {pos pos' tpos : Pos} {td ty tv : TE}
end


/-! ### displays -/
section
variable {X : Cx} {pos : Pos}
end

/-! ### methods -/
/-- a method call o.m(e) of a built-in, with one argument: what must be seen of the text -/
structure M1 (X : Cx) (o : Expr) (m : Str) (apos : Pos) (e : Expr) (cpos : Pos) : Prop where
  base : attributeBase o m X.env (eval o X.env) = eval o X.env
  few : ((backTo cpos (starEach [e] X.env)).all (fun x => !x.1) && (backToKw cpos (keywordEach [] X.env)).all (fun x => x.1.isSome)
    && decide (([e] : List Expr).length + ([] : List Keyword).length + (if ([] : List Keyword).isEmpty then 0 else 1) < 30)) = true
  line : (apos.endLine == cpos.line) = true
  trees : backTo cpos (starEach [e] X.env) = [(false, eval e X.env)]
structure M2 (X : Cx) (o : Expr) (m : Str) (apos : Pos) (e f : Expr) (cpos : Pos) : Prop where
  base : attributeBase o m X.env (eval o X.env) = eval o X.env
  few : ((backTo cpos (starEach [e, f] X.env)).all (fun x => !x.1) && (backToKw cpos (keywordEach [] X.env)).all (fun x => x.1.isSome)
    && decide (([e, f] : List Expr).length + ([] : List Keyword).length + (if ([] : List Keyword).isEmpty then 0 else 1) < 30)) = true
  line : (apos.endLine == cpos.line) = true
  trees : backTo cpos (starEach [e, f] X.env) = [(false, eval e X.env), (false, eval f X.env)]

section
variable {X : Cx} {pins : List (Addr × Obj)} {σ : St} {H : Hp} {s : Shared} {a : Addr} {y d : V} {u r : Value} {o : Option V} {A : Around} {E : Value → Shared → Prop}
end

section
variable {X : Cx} {o e f : Expr} {apos cpos : Pos} {td ty tx : TE}
end

/-! ### dict(d): a copy -/
section
variable {X : Cx} {pins : List (Addr × Obj)} {σ : St} {H : Hp} {s : Shared} {a : Addr} {kvs : List (Key × V)} {A : Around} {E : Value → Shared → Prop}
end


section
variable {X : Cx} {pins : List (Addr × Obj)} {σ : St} {H : Hp} {s : Shared} {a : Addr} {y : V} {u : Value} {A : Around} {E : Value → Shared → Prop}
end
end L2

set_option Elab.async false
set_option linter.all false
set_option maxRecDepth 100000
/-! ### the layer of values: what a text of pure defs is worth, without the heap -/
namespace VL
open PySem L2
open Classical

/-- a value with all that hangs on it -/
inductive D where
  | non | bl (b : Bool) | int (i : Int) | str (x : Str) | ty (n : String)
  | lst (xs : List D) | tup (xs : List D) | ins (C : Addr) | scr (ns : List Int)

abbrev No : Addr → Prop := fun _ => False
/-- a list that is one of the module's own objects -/
def KL (K : PySem.W.Frag) (a : Addr) (xs : List V) : Prop :=
  ∃ (o : Obj) (its : Array Value) (n : Nat), K.lookup a = some o ∧ o.cls = .type "list" ∧ o.dict = none ∧ o.data = .seq its n ∧ its.size ≤ sizeLine ∧ Vals xs its.toList
mutual
/-- v is d in the heap H, by none of the addresses Z -/
inductive Is (K : PySem.W.Frag) (H : Hp) (Z : Addr → Prop) : V → D → Prop
  | non : Is K H Z .non .non
  | bl (b : Bool) : Is K H Z (.bl b) (.bl b)
  | int (i : Int) : Is K H Z (.int i) (.int i)
  | str (x : Str) : Is K H Z (.str x) (.str x)
  | ty (n : String) : Is K H Z (.ty n) (.ty n)
  | lst {a : Addr} {vs : List V} {ds : List D} (hz : ¬ Z a) (h : Rd H a (.lst vs)) (hl : vs.length ≤ sizeLine) (r : IsL K H Z vs ds) : Is K H Z (.ref a) (.lst ds)
  | tup {a : Addr} {vs : List V} {ds : List D} (hz : ¬ Z a) (h : H a = some (.tup vs)) (hl : vs.length ≤ sizeLine) (r : IsL K H Z vs ds) : Is K H Z (.ref a) (.tup ds)
  | ins {a C dx : Addr} (hz : ¬ Z a) (h : H a = some (.ins C dx [])) : Is K H Z (.ref a) (.ins C)
  | scr {a : Addr} {ns : List Int} (hz : ¬ Z a) (h : Rd H a (.lst (ns.map V.int))) (hl : ns.length ≤ sizeLine) : Is K H Z (.ref a) (.scr ns)
  | scrK {a : Addr} {ns : List Int} (h : KL K a (ns.map V.int)) (hl : ns.length ≤ sizeLine) : Is K H Z (.ref a) (.scr ns)
inductive IsL (K : PySem.W.Frag) (H : Hp) (Z : Addr → Prop) : List V → List D → Prop
  | nil : IsL K H Z [] []
  | cons {v : V} {d : D} {vs : List V} {ds : List D} (h : Is K H Z v d) (r : IsL K H Z vs ds) : IsL K H Z (v :: vs) (d :: ds)
end

/-- what is there ahead and not in Z stays, and is not in Z' -/
def Kp (Z : Addr → Prop) (H : Hp) (Z' : Addr → Prop) (H' : Hp) : Prop := ∀ a o, H a = some o → ¬ Z a → H' a = some o ∧ ¬ Z' a
theorem Kp.refl {Z : Addr → Prop} {H : Hp} : Kp Z H Z H := fun _ _ h z => ⟨h, z⟩
theorem Kp.trans {Z Z1 Z2 : Addr → Prop} {H H1 H2 : Hp} (a : Kp Z H Z1 H1) (b : Kp Z1 H1 Z2 H2) : Kp Z H Z2 H2 := fun c o h z => b c o (a c o h z).1 (a c o h z).2
theorem Kp.same {Z : Addr → Prop} {H H' : Hp} (s : Same H H') : Kp Z H Z H' := fun _ _ h z => ⟨s _ _ h, z⟩
theorem Kp.less {Z Z' : Addr → Prop} {H : Hp} (h : ∀ a, Z' a → Z a) : Kp Z H Z' H := fun a _ e z => ⟨e, fun q => z (h a q)⟩
theorem Rd.kp {Z Z' : Addr → Prop} {H H' : Hp} {a : Addr} {u : HO} (k : Kp Z H Z' H') (hz : ¬ Z a) (h : Rd H a u) : Rd H' a u ∧ ¬ Z' a := by
  rcases h with h | ⟨o, h⟩
  · exact ⟨.inl (k _ _ h hz).1, (k _ _ h hz).2⟩
  · exact ⟨.inr ⟨o, (k _ _ h hz).1⟩, (k _ _ h hz).2⟩
mutual
theorem Is.kp {Z Z' : Addr → Prop} {H H' : Hp} (k : Kp Z H Z' H') : ∀ {v : V} {d : D}, Is K H Z v d → Is K H' Z' v d
  | _, _, .non => .non
  | _, _, .bl b => .bl b
  | _, _, .int b => .int b
  | _, _, .str b => .str b
  | _, _, .ty b => .ty b
  | _, _, .lst hz h hl r => .lst (Rd.kp k hz h).2 (Rd.kp k hz h).1 hl (IsL.kp k r)
  | _, _, .tup hz h hl r => .tup (k _ _ h hz).2 (k _ _ h hz).1 hl (IsL.kp k r)
  | _, _, .ins hz h => .ins (k _ _ h hz).2 (k _ _ h hz).1
  | _, _, .scr hz h hl => .scr (Rd.kp k hz h).2 (Rd.kp k hz h).1 hl
  | _, _, .scrK h hl => .scrK h hl
theorem IsL.kp {Z Z' : Addr → Prop} {H H' : Hp} (k : Kp Z H Z' H') : ∀ {v : List V} {d : List D}, IsL K H Z v d → IsL K H' Z' v d
  | _, _, .nil => .nil
  | _, _, .cons h r => .cons (Is.kp k h) (IsL.kp k r)
end
theorem Is.same {Z : Addr → Prop} {H H' : Hp} {v : V} {d : D} (h : Is K H Z v d) (s : Same H H') : Is K H' Z v d := h.kp (Kp.same s)
theorem IsL.same {Z : Addr → Prop} {H H' : Hp} {v : List V} {d : List D} (h : IsL K H Z v d) (s : Same H H') : IsL K H' Z v d := h.kp (Kp.same s)
theorem Is.all {Z : Addr → Prop} {H : Hp} {v : V} {d : D} (h : Is K H Z v d) : Is K H No v d := h.kp (Kp.less fun _ z => z.elim)
theorem IsL.all {Z : Addr → Prop} {H : Hp} {v : List V} {d : List D} (h : IsL K H Z v d) : IsL K H No v d := h.kp (Kp.less fun _ z => z.elim)

/-- no thing of the heap -/
def D.scal : D → Bool
  | .lst _ => false
  | .tup _ => false
  | .ins _ => false
  | .scr _ => false
  | _ => true
theorem Is.scal {Z Z' : Addr → Prop} {H H' : Hp} {v : V} {d : D} (h : Is K H Z v d) (e : d.scal = true) : Is K H' Z' v d := by
  cases h with
  | non => exact .non
  | bl b => exact .bl b
  | int b => exact .int b
  | str b => exact .str b
  | ty b => exact .ty b
  | lst _ _ _ _ => cases e
  | tup _ _ _ _ => cases e
  | ins _ _ => cases e
  | scr _ _ _ => cases e
  | scrK _ _ => cases e

section
variable {H : Hp} {Z : Addr → Prop}
theorem IsL.paired : ∀ {vs : List V} {ds : List D}, IsL K H Z vs ds → Paired (Is K H Z) vs ds
  | _, _, .nil => .nil
  | _, _, .cons h r => .cons h (IsL.paired r)
theorem IsL.of : ∀ {vs : List V} {ds : List D}, Paired (Is K H Z) vs ds → IsL K H Z vs ds
  | _, _, .nil => .nil
  | _, _, .cons h r => .cons h (IsL.of r)
theorem IsL.length {vs : List V} {ds : List D} (h : IsL K H Z vs ds) : vs.length = ds.length := Paired.length h.paired
theorem IsL.get : ∀ {vs : List V} {ds : List D} {i : Nat} {d : D}, IsL K H Z vs ds → ds[i]? = some d → ∃ v, vs[i]? = some v ∧ Is K H Z v d
  | _, _, 0, _, .cons h _, e => by cases e; exact ⟨_, rfl, h⟩
  | _, _, i + 1, _, .cons _ r, e => by
    obtain ⟨v, e1, h1⟩ := IsL.get (i := i) r (by simpa using e)
    exact ⟨v, by simpa using e1, h1⟩
theorem IsL.append {vs us : List V} {ds es : List D} (a : IsL K H Z vs ds) (b : IsL K H Z us es) : IsL K H Z (vs ++ us) (ds ++ es) := .of (Paired.append a.paired b.paired)
theorem IsL.take (n : Nat) {vs : List V} {ds : List D} (a : IsL K H Z vs ds) : IsL K H Z (vs.take n) (ds.take n) := .of (Paired.take n a.paired)
theorem IsL.drop (n : Nat) {vs : List V} {ds : List D} (a : IsL K H Z vs ds) : IsL K H Z (vs.drop n) (ds.drop n) := .of (Paired.drop n a.paired)
theorem IsL.set {v : V} {d : D} (q : Is K H Z v d) : ∀ {vs : List V} {ds : List D} (n : Nat), IsL K H Z vs ds → IsL K H Z (vs.set n v) (ds.set n d)
  | _, _, _, .nil => .nil
  | _, _, 0, .cons _ r => .cons q r
  | _, _, n + 1, .cons h r => .cons h (IsL.set q n r)
theorem IsL.one {v : V} {d : D} (q : Is K H Z v d) : IsL K H Z [v] [d] := .cons q .nil
theorem IsL.ints : ∀ {vs : List V} {ns : List Int}, IsL K H Z vs (ns.map D.int) → vs = ns.map V.int
  | _, [], .nil => rfl
  | _, n :: ns, .cons (.int _) r => by rw [IsL.ints (ns := ns) r]; rfl
theorem IsL.ofInts : ∀ (ns : List Int), IsL K H Z (ns.map V.int) (ns.map D.int)
  | [] => .nil
  | n :: ns => .cons (.int n) (IsL.ofInts ns)
end

/-- what a name stands for -/
inductive Sl where
  | un | pu (d : D) | bo (d : D) | ol (ds : List D) | om (rows : List (List D))
abbrev Rho := List Sl
abbrev Own := Nat → List Addr
def tot (Z : Addr → Prop) (os : Own) : Addr → Prop := fun a => Z a ∨ ∃ i, a ∈ os i
def SlOk (K : PySem.W.Frag) (B H : Hp) (T : Addr → Prop) (o : List Addr) : Sl → Option V → Prop
  | .un, _ => o = []
  | .pu d, v => o = [] ∧ ∃ u, v = some u ∧ Is K H T u d
  | .bo d, v => o = [] ∧ ∃ u, v = some u ∧ Is K B No u d
  | .ol ds, v => ∃ a vs, o = [a] ∧ v = some (.ref a) ∧ H a = some (.lst vs) ∧ vs.length ≤ sizeLine ∧ IsL K H T vs ds
  | .om rows, v => ∃ a ps, o = a :: ps ∧ v = some (.ref a) ∧ H a = some (.lst (ps.map V.ref)) ∧ ps.length ≤ sizeLine ∧ Paired (fun p ds => ∃ vs, H p = some (.lst vs) ∧ vs.length ≤ sizeLine ∧ IsL K H T vs ds) ps rows
structure Fr (K : PySem.W.Frag) (B : Hp) (Z : Addr → Prop) (os : Own) (ρ : Rho) (σ : St) (H : Hp) : Prop where
  keep : Same B H
  zin : ∀ a, Z a → ∃ o, H a = some o
  len : σ.length = ρ.length
  nd : ∀ i, (os i).Nodup
  dj : ∀ i j a, a ∈ os i → a ∈ os j → i = j
  new : ∀ i a, a ∈ os i → B a = none ∧ ¬ Z a
  sl : ∀ i, SlOk K B H (tot Z os) (os i) (ρ.getD i .un) ((σ[i]?).join)

theorem Paired.any {α β : Type} {F : α → β → Prop} : ∀ {as : List α} {bs : List β} {a : α}, Paired F as bs → a ∈ as → ∃ b, F a b
  | _, _, _, .cons r t, h => by
    rcases List.mem_cons.mp h with rfl | h
    · exact ⟨_, r⟩
    · exact Paired.any t h
theorem SlOk.dom {B H : Hp} {T : Addr → Prop} {o : List Addr} {s : Sl} {v : Option V} (h : SlOk K B H T o s v) {a : Addr} (ha : a ∈ o) : ∃ xs, H a = some (.lst xs) := by
  cases s with
  | un => cases h; cases ha
  | pu d => obtain ⟨rfl, _⟩ := h; cases ha
  | bo d => obtain ⟨rfl, _⟩ := h; cases ha
  | ol ds =>
    obtain ⟨b, vs, rfl, _, e, _⟩ := h
    cases List.mem_singleton.mp ha
    exact ⟨_, e⟩
  | om rows =>
    obtain ⟨b, ps, rfl, _, e, _, r⟩ := h
    rcases List.mem_cons.mp ha with rfl | ha
    · exact ⟨_, e⟩
    · obtain ⟨_, vs, q, _⟩ := Paired.any r ha
      exact ⟨_, q⟩
/-- a slot whose own addresses stand as they are -/
theorem SlOk.kp {B B' H H' : Hp} {T T' : Addr → Prop} {o : List Addr} {s : Sl} {v : Option V} (h : SlOk K B H T o s v) (k : Kp T H T' H') (hb : Same B B') (ho : ∀ a ∈ o, ∀ u, H a = some u → H' a = some u) : SlOk K B' H' T' o s v := by
  cases s with
  | un => exact h
  | pu d => obtain ⟨e, u, e2, i⟩ := h; exact ⟨e, u, e2, i.kp k⟩
  | bo d => obtain ⟨e, u, e2, i⟩ := h; exact ⟨e, u, e2, i.same hb⟩
  | ol ds => obtain ⟨a, vs, rfl, e2, e3, hl, i⟩ := h; exact ⟨a, vs, rfl, e2, ho _ (List.mem_singleton.mpr rfl) _ e3, hl, i.kp k⟩
  | om rows =>
    obtain ⟨a, ps, rfl, e2, e3, hl, i⟩ := h
    exact ⟨a, ps, rfl, e2, ho _ List.mem_cons_self _ e3, hl, Paired.mono i fun p ds hp ⟨vs, q, hv, j⟩ => ⟨vs, ho _ (List.mem_cons_of_mem _ hp) _ q, hv, j.kp k⟩⟩
section
variable {B H H' : Hp} {Z : Addr → Prop} {os : Own} {ρ : Rho} {σ : St}
theorem Fr.grow (f : Fr K B Z os ρ σ H) (s : Same H H') : Fr K B Z os ρ σ H' where
  keep := f.keep.trans s
  zin := fun a z => let ⟨o, e⟩ := f.zin a z; ⟨o, s _ _ e⟩
  len := f.len
  nd := f.nd
  dj := f.dj
  new := f.new
  sl := fun i => (f.sl i).kp (Kp.same s) (Same.refl _) fun a _ u e => s _ _ e
/-- what is new is nobody's -/
theorem Fr.out (f : Fr K B Z os ρ σ H) {p : Addr} (hp : H p = none) : ¬ tot Z os p := by
  rintro (z | ⟨i, z⟩)
  · obtain ⟨o, e⟩ := f.zin p z
    rw [hp] at e; cases e
  · obtain ⟨xs, e⟩ := (f.sl i).dom z
    rw [hp] at e; cases e
def putO (os : Own) (i : Nat) (o : List Addr) : Own := fun j => if j = i then o else os j
theorem putO_same {os : Own} {i : Nat} {o : List Addr} : putO os i o i = o := if_pos rfl
theorem putO_ne {os : Own} {i j : Nat} {o : List Addr} (h : j ≠ i) : putO os i o j = os j := if_neg h
theorem getD_set_same {α : Type} {l : List α} {i : Nat} {x d : α} (h : i < l.length) : (l.set i x).getD i d = x := by
  rw [List.getD_eq_getElem?_getD, List.getElem?_set_self h]; rfl
theorem getD_set_ne {α : Type} {l : List α} {i j : Nat} {x d : α} (h : j ≠ i) : (l.set i x).getD j d = l.getD j d := by
  rw [List.getD_eq_getElem?_getD, List.getElem?_set_ne (Ne.symm h), ← List.getD_eq_getElem?_getD]
/-- THE STEP: slot i is stored anew, the heap changed at its own addresses alone -/
theorem Fr.step (f : Fr K B Z os ρ σ H) {i : Nat} (hi : i < ρ.length) {o : List Addr} {s : Sl} {v : Option V}
    (hk : ∀ a u, H a = some u → a ∉ os i → H' a = some u) (hs : ∀ a, a ∈ os i → ∃ u, H' a = some u) (hn : o.Nodup) (ho : ∀ a ∈ o, a ∈ os i ∨ H a = none) (ok : SlOk K B H' (tot Z (putO os i o)) o s v) :
    Fr K B Z (putO os i o) (ρ.set i s) (σ.set i v) H' ∧ Kp (tot Z os) H (tot Z (putO os i o)) H' := by
  have no : ∀ a u, H a = some u → a ∉ os i → a ∉ o := fun a u e n q => by
    rcases ho a q with z | z
    · exact n z
    · rw [z] at e; cases e
  have kp : Kp (tot Z os) H (tot Z (putO os i o)) H' := fun a u e t => by
    have ni : a ∉ os i := fun q => t (.inr ⟨i, q⟩)
    refine ⟨hk a u e ni, ?_⟩
    rintro (z | ⟨j, z⟩)
    · exact t (.inl z)
    · by_cases hj : j = i
      · subst hj; rw [putO_same] at z; exact no a u e ni z
      · rw [putO_ne hj] at z; exact t (.inr ⟨j, z⟩)
  refine ⟨⟨fun a u e => hk a u (f.keep a u e) fun q => ?_, fun a z => ?_, ?_, fun j => ?_, fun j k a h1 h2 => ?_, fun j a h => ?_, fun j => ?_⟩, kp⟩
  · have := (f.new i a q).1; rw [e] at this; cases this
  · obtain ⟨u, e⟩ := f.zin a z
    exact ⟨u, hk a u e fun q => (f.new i a q).2 z⟩
  · rw [List.length_set, List.length_set]; exact f.len
  · by_cases hj : j = i
    · subst hj; rw [putO_same]; exact hn
    · rw [putO_ne hj]; exact f.nd j
  · have dom : ∀ k, a ∈ os k → ∃ u, H a = some u := fun k z => let ⟨xs, e⟩ := (f.sl k).dom z; ⟨_, e⟩
    by_cases hj : j = i
    · by_cases hk' : k = i
      · rw [hj, hk']
      · subst hj
        rw [putO_same] at h1; rw [putO_ne hk'] at h2
        rcases ho a h1 with z | z
        · exact f.dj _ _ a z h2
        · obtain ⟨u, e⟩ := dom k h2; rw [z] at e; cases e
    · by_cases hk' : k = i
      · subst hk'
        rw [putO_ne hj] at h1; rw [putO_same] at h2
        rcases ho a h2 with z | z
        · exact f.dj _ _ a h1 z
        · obtain ⟨u, e⟩ := dom j h1; rw [z] at e; cases e
      · rw [putO_ne hj] at h1; rw [putO_ne hk'] at h2
        exact f.dj _ _ a h1 h2
  · by_cases hj : j = i
    · subst hj
      rw [putO_same] at h
      rcases ho a h with z | z
      · exact f.new _ a z
      · exact ⟨Same.free f.keep z, fun q => f.out z (.inl q)⟩
    · rw [putO_ne hj] at h; exact f.new j a h
  · by_cases hj : j = i
    · subst hj
      have hσ : j < σ.length := by rw [f.len]; exact hi
      rw [putO_same, getD_set_same hi, List.getElem?_set_self hσ]
      exact ok
    · rw [putO_ne hj, getD_set_ne hj, List.getElem?_set_ne (Ne.symm hj)]
      exact (f.sl j).kp kp (Same.refl _) fun a ha u e => hk a u e fun q => hj (f.dj _ _ a ha q)
/-- a name stands for a value -/
theorem Fr.put (f : Fr K B Z os ρ σ H) {i : Nat} (hi : i < ρ.length) {v : V} {d : D} (h : Is K H (tot Z os) v d) :
    Fr K B Z (putO os i []) (ρ.set i (.pu d)) (σ.set i (some v)) H ∧ Kp (tot Z os) H (tot Z (putO os i [])) H := by
  refine f.step hi (fun a u e _ => e) (fun a ha => let ⟨xs, e⟩ := (f.sl i).dom ha; ⟨_, e⟩) List.nodup_nil (fun a h => by cases h) ⟨rfl, v, rfl, h.kp (Kp.less ?_)⟩
  rintro a (z | ⟨j, z⟩)
  · exact .inl z
  · by_cases hj : j = i
    · subst hj; rw [putO_same] at z; cases z
    · rw [putO_ne hj] at z; exact .inr ⟨j, z⟩
end
end VL

set_option Elab.async false
set_option linter.all false
set_option maxRecDepth 100000
namespace VL
open PySem L2
open Classical

noncomputable section
abbrev DE := Rho → Option D
section
variable {K : PySem.W.Frag}
/-- the expression is worth e; by any address | by none of the owned ones | a new list -/
def SemB (K : PySem.W.Frag) (t : TE) (e : DE) : Prop := ∀ {B : Hp} {Z : Addr → Prop} {os : Own} {ρ : Rho} {σ : L2.St} {H : Hp} {Q : VK} {d : D}, Fr K B Z os ρ σ H → e ρ = some d → (∀ v H', Same H H' → Is K H' No v d → Q v H') → t σ H Q
def SemI (K : PySem.W.Frag) (t : TE) (e : DE) : Prop := ∀ {B : Hp} {Z : Addr → Prop} {os : Own} {ρ : Rho} {σ : L2.St} {H : Hp} {Q : VK} {d : D}, Fr K B Z os ρ σ H → e ρ = some d → (∀ v H', Same H H' → Is K H' (tot Z os) v d → Q v H') → t σ H Q
def SemF (K : PySem.W.Frag) (t : TE) (e : Rho → Option (List D)) : Prop := ∀ {B : Hp} {Z : Addr → Prop} {os : Own} {ρ : Rho} {σ : L2.St} {H : Hp} {Q : VK} {ds : List D}, Fr K B Z os ρ σ H → e ρ = some ds →
  (∀ p vs H', Same H H' → H p = none → H' p = some (.lst vs) → vs.length ≤ sizeLine → IsL K H' (fun a => a = p ∨ tot Z os a) vs ds → Q (.ref p) H') → t σ H Q
def SemT (K : PySem.W.Frag) (t : TT) (e : Rho → Option Bool) : Prop := ∀ {B : Hp} {Z : Addr → Prop} {os : Own} {ρ : Rho} {σ : L2.St} {H : Hp} {Q : Bool → Hp → Prop} {b : Bool}, Fr K B Z os ρ σ H → e ρ = some b → (∀ H', Same H H' → Q b H') → t σ H Q
/-- arguments: true, by none of the owned addresses -/
inductive Args (K : PySem.W.Frag) (H : Hp) (T : Addr → Prop) : List Bool → List V → List D → Prop
  | nil : Args K H T [] [] []
  | own {ms : List Bool} {v : V} {d : D} {vs : List V} {ds : List D} : Is K H T v d → Args K H T ms vs ds → Args K H T (true :: ms) (v :: vs) (d :: ds)
  | any {ms : List Bool} {v : V} {d : D} {vs : List V} {ds : List D} : Is K H No v d → Args K H T ms vs ds → Args K H T (false :: ms) (v :: vs) (d :: ds)
def SemA (K : PySem.W.Frag) (ms : List Bool) (t : TA) (e : Rho → Option (List D)) : Prop := ∀ {B : Hp} {Z : Addr → Prop} {os : Own} {ρ : Rho} {σ : L2.St} {H : Hp} {Q : List V → Hp → Prop} {ds : List D}, Fr K B Z os ρ σ H → e ρ = some ds → (∀ vs H', Same H H' → Args K H' (tot Z os) ms vs ds → Q vs H') → t σ H Q
theorem Args.same {H H' : Hp} {T : Addr → Prop} {ms : List Bool} {vs : List V} {ds : List D} (s : Same H H') (a : Args K H T ms vs ds) : Args K H' T ms vs ds := by
  induction a with
  | nil => exact .nil
  | own h _ ih => exact .own (h.same s) ih
  | any h _ ih => exact .any (h.same s) ih
theorem Args.len {H : Hp} {T : Addr → Prop} {ms : List Bool} {vs : List V} {ds : List D} (a : Args K H T ms vs ds) : vs.length = ms.length ∧ ds.length = ms.length := by
  induction a with
  | nil => exact ⟨rfl, rfl⟩
  | own h _ ih => simp [ih.1, ih.2]
  | any h _ ih => simp [ih.1, ih.2]
theorem Args.lown {H : Hp} {T : Addr → Prop} : ∀ {n : Nat} {vs : List V} {ds : List D}, Args K H T (List.replicate n true) vs ds → IsL K H T vs ds
  | 0, _, _, .nil => .nil
  | _ + 1, _, _, .own h r => .cons h r.lown

theorem SemI.b {t : TE} {e : DE} (h : SemI K t e) : SemB K t e := fun f q k => h f q fun v H' s i => k v H' s i.all
theorem SemF.i {t : TE} {e : Rho → Option (List D)} (h : SemF K t e) : SemI K t (fun ρ => (e ρ).map D.lst) := fun {B Z os ρ σ H Q d} f q k => by
  dsimp only at q
  cases q1 : e ρ with
  | none => rw [q1] at q; cases q
  | some ds =>
    rw [q1] at q
    cases q
    refine h f q1 fun p vs H' s hp hp' hl i => k _ _ s (.lst (f.out hp) (.inl hp') hl (i.kp (Kp.less fun a z => .inr z)))
/-- a list's items -/
def lof : D → Option (List D)
  | .lst ds => some ds
  | .scr ns => some (ns.map D.int)
  | _ => none
theorem Is.seq {H : Hp} {Z : Addr → Prop} {v : V} {d : D} {ds : List D} (h : Is K H Z v d) (e : lof d = some ds) : ∃ p vs, v = .ref p ∧ vs.length ≤ sizeLine ∧ vs.length = ds.length ∧ ∀ H' Z', Kp Z H Z' H' → SqL K H' p vs ∧ IsL K H' Z' vs ds := by
  cases h with
  | lst hz h hl r => cases e; exact ⟨_, _, rfl, hl, r.length, fun H' Z' k => ⟨.inl (Rd.kp k hz h).1, r.kp k⟩⟩
  | scr hz h hl => cases e; exact ⟨_, _, rfl, by rw [List.length_map]; exact hl, by simp, fun H' Z' k => ⟨.inl (Rd.kp k hz h).1, .ofInts _⟩⟩
  | scrK h hl => cases e; exact ⟨_, _, rfl, by rw [List.length_map]; exact hl, by simp, fun H' Z' k => ⟨.inr h, .ofInts _⟩⟩
  | _ => cases e
def gScal (e : DE) : DE := fun ρ => match e ρ with
  | some d => if d.scal = true then some d else none
  | none => none
theorem SemB.i {t : TE} {e : DE} (h : SemB K t e) : SemI K t (gScal e) := fun {B Z os ρ σ H Q d} f q k => by
  unfold gScal at q
  cases q1 : e ρ with
  | none => rw [q1] at q; cases q
  | some d' =>
    rw [q1] at q
    have q' : (if d'.scal = true then some d' else none) = some d := q
    by_cases c : d'.scal = true
    · rw [if_pos c] at q'
      cases q'
      exact h f q1 fun v H' s i => k v H' s (i.scal c)
    · rw [if_neg c] at q'; cases q'
/-- a value that is always flat -/
theorem SemB.flat {t : TE} {e : DE} (h : SemB K t e) (hs : ∀ ρ d, e ρ = some d → d.scal = true) : SemI K t e := fun f q k => h f q fun v H' s i => k v H' s (i.scal (hs _ _ q))

/-! names, constants -/
def dVar (i : Nat) : DE := fun ρ => match ρ.getD i .un with
  | .pu d => some d
  | .bo d => some d
  | .ol ds => some (.lst ds)
  | .om rows => some (.lst (rows.map D.lst))
  | .un => none
def dVarI (i : Nat) : DE := fun ρ => match ρ.getD i .un with
  | .pu d => some d
  | _ => none
theorem join_some {α : Type} {o : Option (Option α)} {u : α} (h : o.join = some u) : o = some (some u) := by
  cases o with
  | none => cases h
  | some x => rw [show x = some u from h]
theorem rows_is {H : Hp} {T : Addr → Prop} : ∀ {ps : List Addr} {rows : List (List D)}, Paired (fun p ds => ∃ vs, H p = some (.lst vs) ∧ vs.length ≤ sizeLine ∧ IsL K H T vs ds) ps rows → IsL K H No (ps.map V.ref) (rows.map D.lst)
  | _, _, .nil => .nil
  | _, _, .cons ⟨vs, e, hl, i⟩ r => .cons (.lst (fun z => z) (.inl e) hl i.all) (rows_is r)
theorem sb_var (i : Nat) : SemB K (tVar i) (dVar i) := fun {B Z os ρ σ H Q d} f q k => by
  have s := f.sl i
  unfold dVar at q
  cases e : ρ.getD i .un with
  | un => rw [e] at q; cases q
  | pu d' =>
    rw [e] at q s
    cases q
    obtain ⟨_, u, hu, i⟩ := s
    exact ⟨u, join_some hu, k u H (Same.refl _) i.all⟩
  | bo d' =>
    rw [e] at q s
    cases q
    obtain ⟨_, u, hu, i⟩ := s
    exact ⟨u, join_some hu, k u H (Same.refl _) (i.same f.keep)⟩
  | ol ds =>
    rw [e] at q s
    cases q
    obtain ⟨a, vs, _, hu, hH, hl, i⟩ := s
    exact ⟨_, join_some hu, k _ H (Same.refl _) (.lst (fun z => z) (.inl hH) hl i.all)⟩
  | om rows =>
    rw [e] at q s
    cases q
    obtain ⟨a, ps, _, hu, hH, hl, i⟩ := s
    exact ⟨_, join_some hu, k _ H (Same.refl _) (.lst (fun z => z) (.inl hH) (by rw [List.length_map]; exact hl) (rows_is i))⟩
theorem si_var (i : Nat) : SemI K (tVar i) (dVarI i) := fun {B Z os ρ σ H Q d} f q k => by
  have s := f.sl i
  unfold dVarI at q
  cases e : ρ.getD i .un with
  | pu d' =>
    rw [e] at q s
    cases q
    obtain ⟨_, u, hu, i⟩ := s
    exact ⟨u, join_some hu, k u H (Same.refl _) i⟩
  | _ => rw [e] at q; cases q
def dC (d : D) : DE := fun _ => some d
theorem si_int {i : Int} : SemI K (tC (.int i)) (dC (.int i)) := fun f q k => by cases q; exact k _ _ (Same.refl _) (.int i)
theorem si_bl {i : Bool} : SemI K (tC (.bl i)) (dC (.bl i)) := fun f q k => by cases q; exact k _ _ (Same.refl _) (.bl i)
theorem si_non : SemI K (tC .non) (dC .non) := fun f q k => by cases q; exact k _ _ (Same.refl _) .non
/-! ints -/
def dII (f : Int → Int → Option D) (a b : DE) : DE := fun ρ => match a ρ with
  | some (.int i) => (match b ρ with
    | some (.int j) => f i j
    | _ => none)
  | _ => none
theorem dII_some {f : Int → Int → Option D} {a b : DE} {ρ : Rho} {d : D} (h : dII f a b ρ = some d) : ∃ i j, a ρ = some (.int i) ∧ b ρ = some (.int j) ∧ f i j = some d := by
  unfold dII at h
  split at h
  · rename_i i e1
    split at h
    · rename_i j e2
      exact ⟨i, j, e1, e2, h⟩
    · cases h
  · cases h
theorem Is.isInt {H : Hp} {Z : Addr → Prop} {v : V} {i : Int} (h : Is K H Z v (.int i)) : v = .int i := by cases h; rfl
theorem Is.isBl {H : Hp} {Z : Addr → Prop} {v : V} {i : Bool} (h : Is K H Z v (.bl i)) : v = .bl i := by cases h; rfl
variable {ta tb tc : TE} {a b c : DE}
theorem si_op0 {g : Int → Int → V} (gd : Int → Int → D) (hg : ∀ i j H Z, Is K H Z (g i j) (gd i j)) (ha : SemB K ta a) (hb : SemB K tb b) : SemI K (tOp (rI0 g) ta tb) (dII (fun i j => some (gd i j)) a b) := fun {B Z os ρ σ H Q d} f q k => by
  obtain ⟨i, j, e1, e2, e3⟩ := dII_some q
  cases e3
  refine ha f e1 fun v H1 s1 i1 => hb (f.grow s1) e2 fun u H2 s2 i2 => ?_
  exact ⟨i, j, i1.isInt, i2.isInt, k _ _ (s1.trans s2) (hg i j _ _)⟩
def gC (C : Int → Int → Prop) (g : Int → Int → D) : Int → Int → Option D := fun i j => if C i j then some (g i j) else none
theorem gC_pos {C : Int → Int → Prop} {g : Int → Int → D} {i j : Int} (h : C i j) : gC C g i j = some (g i j) := if_pos h
theorem si_opC {C : Int → Int → Prop} {g : Int → Int → V} (gd : Int → Int → D) (hg : ∀ i j H Z, Is K H Z (g i j) (gd i j)) (ha : SemB K ta a) (hb : SemB K tb b) : SemI K (tOp (rI C g) ta tb) (dII (gC C gd) a b) := fun {B Z os ρ σ H Q d} f q k => by
  obtain ⟨i, j, e1, e2, e3⟩ := dII_some q
  unfold gC at e3
  by_cases c : C i j
  · rw [if_pos c] at e3
    cases e3
    refine ha f e1 fun v H1 s1 i1 => hb (f.grow s1) e2 fun u H2 s2 i2 => ?_
    exact ⟨i, j, i1.isInt, i2.isInt, c, k _ _ (s1.trans s2) (hg i j _ _)⟩
  · rw [if_neg c] at e3; cases e3
def dAdd : DE → DE → DE := dII fun i j => some (.int (i + j))
def dSub : DE → DE → DE := dII fun i j => some (.int (i - j))
def dMul : DE → DE → DE := dII (gC IntMulOk fun i j => .int (i * j))
def dFdiv : DE → DE → DE := dII (gC (fun _ j => 0 < j ∧ j.natAbs.log2 < 9000) fun i j => .int (i / j))
def dMod : DE → DE → DE := dII (gC (fun _ j => 0 < j) fun i j => .int (i % j))
def dPow : DE → DE → DE := dII (gC CPow fun i j => .int (i ^ j.toNat))
def dLt : DE → DE → DE := dII fun i j => some (.bl (decide (i < j)))
def dLe : DE → DE → DE := dII fun i j => some (.bl (decide (i ≤ j)))
def dGt : DE → DE → DE := dII fun i j => some (.bl (decide (j < i)))
def dGe : DE → DE → DE := dII fun i j => some (.bl (decide (j ≤ i)))
theorem si_add (ha : SemB K ta a) (hb : SemB K tb b) : SemI K (tOp (rI0 fun i j => .int (i + j)) ta tb) (dAdd a b) := si_op0 (fun i j => .int (i + j)) (fun _ _ _ _ => .int _) ha hb
theorem si_sub (ha : SemB K ta a) (hb : SemB K tb b) : SemI K (tOp (rI0 fun i j => .int (i - j)) ta tb) (dSub a b) := si_op0 (fun i j => .int (i - j)) (fun _ _ _ _ => .int _) ha hb
theorem si_mul (ha : SemB K ta a) (hb : SemB K tb b) : SemI K (tOp (rI IntMulOk fun i j => .int (i * j)) ta tb) (dMul a b) := si_opC (fun i j => .int (i * j)) (fun _ _ _ _ => .int _) ha hb
theorem si_fdiv (ha : SemB K ta a) (hb : SemB K tb b) : SemI K (tOp (rI (fun _ j => 0 < j ∧ j.natAbs.log2 < 9000) fun i j => .int (i / j)) ta tb) (dFdiv a b) := si_opC (fun i j => .int (i / j)) (fun _ _ _ _ => .int _) ha hb
theorem si_mod (ha : SemB K ta a) (hb : SemB K tb b) : SemI K (tOp (rI (fun _ j => 0 < j) fun i j => .int (i % j)) ta tb) (dMod a b) := si_opC (fun i j => .int (i % j)) (fun _ _ _ _ => .int _) ha hb
theorem si_pow (ha : SemB K ta a) (hb : SemB K tb b) : SemI K (tOp (rI CPow fun i j => .int (i ^ j.toNat)) ta tb) (dPow a b) := si_opC (fun i j => .int (i ^ j.toNat)) (fun _ _ _ _ => .int _) ha hb
theorem si_lt (ha : SemB K ta a) (hb : SemB K tb b) : SemI K (tOp (rI0 fun i j => .bl (decide (i < j))) ta tb) (dLt a b) := si_op0 (fun i j => .bl (decide (i < j))) (fun _ _ _ _ => .bl _) ha hb
theorem si_gt (ha : SemB K ta a) (hb : SemB K tb b) : SemI K (tOp (rI0 fun i j => .bl (decide (j < i))) ta tb) (dGt a b) := si_op0 (fun i j => .bl (decide (j < i))) (fun _ _ _ _ => .bl _) ha hb
theorem si_ge (ha : SemB K ta a) (hb : SemB K tb b) : SemI K (tOp (rI0 fun i j => .bl (decide (j ≤ i))) ta tb) (dGe a b) := si_op0 (fun i j => .bl (decide (j ≤ i))) (fun _ _ _ _ => .bl _) ha hb
def dNeg (a : DE) : DE := fun ρ => match a ρ with
  | some (.int i) => some (.int (-i))
  | _ => none
theorem si_neg (ha : SemB K ta a) : SemI K (tUn (rU fun i => .int (-i)) ta) (dNeg a) := fun {B Z os ρ σ H Q d} f q k => by
  unfold dNeg at q
  split at q
  · rename_i i e1
    cases q
    exact ha f e1 fun v H1 s1 i1 => ⟨i, i1.isInt, k _ _ s1 (.int _)⟩
  · cases q
/-- a op1 b op2 c of ints -/
def dChain (p q : Int → Int → Bool) (a b c : DE) : DE := fun ρ => match a ρ with
  | some (.int i) => (match b ρ with
    | some (.int j) => if p i j = true then (match c ρ with
      | some (.int k) => some (.bl (q j k))
      | _ => none) else some (.bl false)
    | _ => none)
  | _ => none
theorem si_chain {p q : Int → Int → Bool} (ha : SemB K ta a) (hb : SemB K tb b) (hc : SemB K tc c) : SemI K (tChain (rI0 fun i j => .bl (p i j)) (rI0 fun i j => .bl (q i j)) ta tb tc) (dChain p q a b c) := fun {B Z os ρ σ H Q d} f e k => by
  unfold dChain at e
  split at e
  · rename_i i e1
    split at e
    · rename_i j e2
      refine ha f e1 fun v H1 s1 i1 => hb (f.grow s1) e2 fun u H2 s2 i2 => ⟨i, j, i1.isInt, i2.isInt, p i j, rfl, ?_⟩
      by_cases hp : p i j = true
      · rw [if_pos hp] at e ⊢
        split at e
        · rename_i l e3
          cases e
          exact hc (f.grow (s1.trans s2)) e3 fun w H3 s3 i3 => ⟨j, l, i2.isInt, i3.isInt, k _ _ ((s1.trans s2).trans s3) (.bl _)⟩
        · cases e
      · rw [if_neg hp] at e ⊢
        cases e
        exact k _ _ (s1.trans s2) (.bl _)
    · cases e
  · cases e

/-! tests -/
def dT (a : DE) : Rho → Option Bool := fun ρ => match a ρ with
  | some (.bl b) => some b
  | _ => none
theorem st_test (ha : SemB K ta a) : SemT K (tTest ta) (dT a) := fun {B Z os ρ σ H Q d} f q k => by
  unfold dT at q
  split at q
  · rename_i b e
    cases q
    exact ha f e fun v H1 s1 i1 => ⟨_, i1.isBl, k _ s1⟩
  · cases q
def truD : D → Option Bool
  | .non => some false
  | .bl b => some b
  | .int i => some (i != 0)
  | .str y => if y.length ≤ sizeLine then some ((y.length : Int) != 0) else none
  | .lst ds => some (!ds.isEmpty)
  | .tup ds => some (!ds.isEmpty)
  | .scr ns => some (!ns.isEmpty)
  | _ => none
theorem isEmpty_is {H : Hp} {Z : Addr → Prop} {vs : List V} {ds : List D} (h : IsL K H Z vs ds) : vs.isEmpty = ds.isEmpty := by cases h <;> rfl
theorem tru_is {H : Hp} {Z : Addr → Prop} {v : V} {d : D} {b : Bool} (h : Is K H Z v d) (e : truD d = some b) : TruV K v H b := by
  cases h with
  | non => cases e; rfl
  | bl b => cases e; rfl
  | int i => cases e; rfl
  | str x =>
    have e : (if x.length ≤ sizeLine then some ((x.length : Int) != 0) else none) = some b := e
    by_cases c : x.length ≤ sizeLine
    · rw [if_pos c] at e; cases e; exact ⟨c, rfl⟩
    · rw [if_neg c] at e; cases e
  | ty n => cases e
  | lst hz h hl r => cases e; exact .inl ⟨_, .inl h, by rw [isEmpty_is r]⟩
  | tup hz h hl r => cases e; exact .inr (.inl ⟨_, .inl (.inl h), by rw [isEmpty_is r]⟩)
  | ins _ _ => cases e
  | scr hz h hl => cases e; exact .inl ⟨_, .inl h, by cases ‹List Int› <;> rfl⟩
  | scrK h hl => cases e; exact .inl ⟨_, .inr h, by cases ‹List Int› <;> rfl⟩
def dTru (a : DE) : Rho → Option Bool := fun ρ => match a ρ with
  | some d => truD d
  | none => none
theorem st_tru (ha : SemB K ta a) : SemT K (fun σ H Q => ta σ H fun x H' => ∃ k, TruV K x H' k ∧ Q k H') (dTru a) := fun {B Z os ρ σ H Q b} f q k => by
  unfold dTru at q
  split at q
  · rename_i d e
    exact ha f e fun v H1 s1 i1 => ⟨b, tru_is i1 q, k _ s1⟩
  · cases q
variable {tA tB' : TT} {x y : Rho → Option Bool}
def dAnd (x y : Rho → Option Bool) : Rho → Option Bool := fun ρ => match x ρ with
  | some true => y ρ
  | some false => some false
  | none => none
def dOr (x y : Rho → Option Bool) : Rho → Option Bool := fun ρ => match x ρ with
  | some true => some true
  | some false => y ρ
  | none => none
def dNot (x : Rho → Option Bool) : Rho → Option Bool := fun ρ => match x ρ with
  | some b => some (!b)
  | none => none
theorem st_or (ha : SemT K tA x) (hb : SemT K tB' y) : SemT K (tOr tA tB') (dOr x y) := fun {B Z os ρ σ H Q b} f q k => by
  unfold dOr at q
  split at q
  · rename_i e
    cases q
    exact ha f e fun H1 s1 => iteT (k _ s1)
  · rename_i e
    exact ha f e fun H1 s1 => iteF (hb (f.grow s1) q fun H2 s2 => k _ (s1.trans s2))
  · cases q
theorem st_not (ha : SemT K tA x) : SemT K (tNot tA) (dNot x) := fun {B Z os ρ σ H Q b} f q k => by
  unfold dNot at q
  split at q
  · rename_i c e
    cases q
    exact ha f e fun H1 s1 => k _ s1
  · cases q
def dTrue : Rho → Option Bool := fun _ => some true
/-- and, or, not as values -/
def dAndV (a b : DE) : DE := fun ρ => match a ρ with
  | some (.bl true) => b ρ
  | some (.bl false) => some (.bl false)
  | _ => none
def dOrV (a b : DE) : DE := fun ρ => match a ρ with
  | some (.bl true) => some (.bl true)
  | some (.bl false) => b ρ
  | _ => none
def dNotV (a : DE) : DE := fun ρ => match a ρ with
  | some (.bl c) => some (.bl (!c))
  | _ => none
end
end
end VL

set_option Elab.async false
set_option linter.all false
set_option maxRecDepth 100000
/-! rules of the hand layer that read frozen lists too -/
namespace L2
open PySem PySem.Spec PyProof.Rows
section
variable {X : Cx} {pins : List (Addr × Obj)} {σ : St} {H : Hp} {s : Shared} {l : Addr} {xs : List V}
theorem Inv.lstR (I : Inv X pins σ H s) (hH : Rd H l (.lst xs)) : xs.length ≤ sizeLine ∧ ∃ (its : List Value) (n : Nat), Vals xs its ∧ xs.length = its.length ∧ s.heap.get? l = some { cls := .type "list", data := .seq its.toArray n } := by
  obtain ⟨z, its, n, r, e⟩ := hH.ok I.hok
  exact ⟨z, its, n, r, r.length, e⟩
def rCatR : R2 := fun x y H Q => ∃ l b xs zs, x = .ref l ∧ y = .ref b ∧ Rd H l (.lst xs) ∧ Rd H b (.lst zs) ∧ xs.length + zs.length ≤ sizeLine ∧ ∀ p, H p = none → Q (.ref p) (upd H p (.lst (xs ++ zs)))
theorem op_catR : OpR X (binaryOp .Add) rCatR := by
  intro pins s σ H x y v u Q I rx ry h
  obtain ⟨l, b, xs, zs, rfl, rfl, hH, hB, hz, q⟩ := h
  cases rx
  cases ry
  obtain ⟨z, its, n, r, hl, e⟩ := I.lstR hH
  obtain ⟨z2, its2, n2, r2, hl2, e2⟩ := I.lstR hB
  refine PySem.P.add_list e e2 ?_ (by rw [List.size_toArray, List.size_toArray]; omega)
  have ea : its.toArray ++ its2.toArray = (its ++ its2).toArray := by simp
  rw [ea]
  exact ⟨.ref _, _, I.lnew (t' := s.toks) (r.append r2) (by rw [List.length_append]; omega), rfl, q _ I.fresh⟩
theorem ix_seqK {K : PySem.W.Frag} (h : X.K = K) : IxR X (rIx K) := by subst h; exact ix_seq
theorem call_lenK {K : PySem.W.Frag} (h : X.K = K) : CallR X (.builtin "len") (fun xs H Q => ∃ x n, xs = [x] ∧ LenV K x H n ∧ Q (.int n) H) := by subst h; exact call_len
end
end L2
namespace VL
open PySem L2
open Classical
noncomputable section
section
variable {K : PySem.W.Frag} {ta tb tc : TE} {a b c : DE}

/-! arguments -/
def dCons (a : DE) (es : Rho → Option (List D)) : Rho → Option (List D) := fun ρ => match a ρ with
  | some d => (match es ρ with
    | some ds => some (d :: ds)
    | none => none)
  | none => none
def dNil : Rho → Option (List D) := fun _ => some []
theorem dCons_some {a : DE} {es : Rho → Option (List D)} {ρ : Rho} {ds : List D} (h : dCons a es ρ = some ds) : ∃ d r, a ρ = some d ∧ es ρ = some r ∧ ds = d :: r := by
  unfold dCons at h
  split at h
  · rename_i d e1
    split at h
    · rename_i r e2
      exact ⟨d, r, e1, e2, (Option.some.inj h).symm⟩
    · cases h
  · cases h
theorem sa_nil : SemA K [] tNil dNil := fun f q k => by cases q; exact k _ _ (Same.refl _) .nil
theorem sa_own {ms : List Bool} {tr : TA} {es : Rho → Option (List D)} (ha : SemI K ta a) (hr : SemA K ms tr es) : SemA K (true :: ms) (tCons ta tr) (dCons a es) := fun {B Z os ρ σ H Q ds} f q k => by
  obtain ⟨d, r, e1, e2, rfl⟩ := dCons_some q
  exact ha f e1 fun v H1 s1 i1 => hr (f.grow s1) e2 fun vs H2 s2 i2 => k _ _ (s1.trans s2) (.own (i1.same s2) i2)
theorem sa_any {ms : List Bool} {tr : TA} {es : Rho → Option (List D)} (ha : SemB K ta a) (hr : SemA K ms tr es) : SemA K (false :: ms) (tCons ta tr) (dCons a es) := fun {B Z os ρ σ H Q ds} f q k => by
  obtain ⟨d, r, e1, e2, rfl⟩ := dCons_some q
  exact ha f e1 fun v H1 s1 i1 => hr (f.grow s1) e2 fun vs H2 s2 i2 => k _ _ (s1.trans s2) (.any (i1.same s2) i2)

/-! lists, tuples -/
theorem kp_new {T : Addr → Prop} {H : Hp} {p : Addr} {o : HO} (hp : H p = none) : Kp T H (fun a => a = p ∨ T a) (upd H p o) := fun a u e z => by
  have hne : a ≠ p := ne_of_none e hp
  exact ⟨by rw [upd_ne hne]; exact e, fun q => q.elim hne z⟩
theorem sf_lst {n : Nat} {t : TA} {es : Rho → Option (List D)} (h : SemA K (List.replicate n true) t es) (hn : n ≤ sizeLine) : SemF K (tLst t) es := fun {B Z os ρ σ H Q ds} f q k => by
  refine h f q fun vs H1 s1 a => ?_
  have hl : vs.length ≤ sizeLine := by have := a.len.1; rw [List.length_replicate] at this; omega
  exact ⟨hl, fun p hp => k p vs _ (s1.trans (same_new hp)) (Same.free s1 hp) upd_same hl (a.lown.kp (kp_new hp))⟩
def dTup (es : Rho → Option (List D)) : DE := fun ρ => (es ρ).map D.tup
def dLst (es : Rho → Option (List D)) : DE := fun ρ => (es ρ).map D.lst
theorem SemF.l {t : TE} {e : Rho → Option (List D)} (h : SemF K t e) : SemI K t (dLst e) := h.i

/-! an item -/
def ixD : D → Int → Option D
  | .lst ds, i => atI ds i
  | .tup ds, i => atI ds i
  | .scr ns, i => (atI ns i).map D.int
  | .str z, i => if z.length ≤ sizeLine then (atI z.cps.toList i).map fun c => .str ⟨#[c]⟩ else none
  | _, _ => none
theorem atI_is {H : Hp} {Z : Addr → Prop} {vs : List V} {ds : List D} {i : Int} {d : D} (r : IsL K H Z vs ds) (h : atI ds i = some d) : ∃ v, atI vs i = some v ∧ Is K H Z v d := by
  unfold atI at h ⊢
  rw [r.length]
  cases e : ixN ds.length i with
  | none => rw [e] at h; cases h
  | some j =>
    rw [e] at h
    obtain ⟨v, e1, i1⟩ := r.get (i := j) (show ds[j]? = some d from h)
    exact ⟨v, e1, i1⟩
theorem atI_mapI {ns : List Int} {i : Int} {n : Int} (h : atI ns i = some n) : atI (ns.map V.int) i = some (.int n) := by
  unfold atI at h ⊢
  rw [List.length_map]
  cases e : ixN ns.length i with
  | none => rw [e] at h; cases h
  | some j =>
    rw [e] at h
    have h' : ns[j]? = some n := h
    show (ns.map V.int)[j]? = some (.int n)
    rw [List.getElem?_map, h']
    rfl
theorem ix_is {H : Hp} {Z : Addr → Prop} {v : V} {d e : D} {i : Int} {Q : VK} (h : Is K H Z v d) (q : ixD d i = some e) (k : ∀ u, Is K H Z u e → Q u H) : rIx K v (.int i) H Q := by
  cases h with
  | lst hz h hl r =>
    obtain ⟨u, e1, i1⟩ := atI_is r (show atI _ i = some e from q)
    exact .inl ⟨_, _, i, u, rfl, rfl, .inl h, e1, k u i1⟩
  | tup hz h hl r =>
    obtain ⟨u, e1, i1⟩ := atI_is r (show atI _ i = some e from q)
    exact .inr (.inl ⟨_, _, i, u, rfl, rfl, .inl (.inl h), e1, k u i1⟩)
  | str z =>
    have q : (if z.length ≤ sizeLine then (atI z.cps.toList i).map fun c => D.str ⟨#[c]⟩ else none) = some e := q
    by_cases c : z.length ≤ sizeLine
    · rw [if_pos c] at q
      cases e2 : atI z.cps.toList i with
      | none => rw [e2] at q; cases q
      | some cp =>
        rw [e2] at q
        cases q
        exact .inr (.inr ⟨z, i, cp, rfl, rfl, c, e2, k _ (.str _)⟩)
    · rw [if_neg c] at q; cases q
  | @scr p ns hz h hl =>
    have q : (atI ns i).map D.int = some e := q
    cases e2 : atI ns i with
    | none => rw [e2] at q; cases q
    | some n => rw [e2] at q; cases q; exact .inl ⟨_, _, i, _, rfl, rfl, .inl h, atI_mapI e2, k _ (.int n)⟩
  | @scrK p ns h hl =>
    have q : (atI ns i).map D.int = some e := q
    cases e2 : atI ns i with
    | none => rw [e2] at q; cases q
    | some n => rw [e2] at q; cases q; exact .inl ⟨_, _, i, _, rfl, rfl, .inr h, atI_mapI e2, k _ (.int n)⟩
  | _ => cases q
def dIx (a b : DE) : DE := fun ρ => match a ρ with
  | some d => (match b ρ with
    | some (.int i) => ixD d i
    | _ => none)
  | none => none
theorem dIx_some {ρ : Rho} {d : D} (h : dIx a b ρ = some d) : ∃ e i, a ρ = some e ∧ b ρ = some (.int i) ∧ ixD e i = some d := by
  unfold dIx at h
  split at h
  · rename_i e e1
    split at h
    · rename_i i e2
      exact ⟨e, i, e1, e2, h⟩
    · cases h
  · cases h
theorem sb_ix (ha : SemB K ta a) (hb : SemB K tb b) : SemB K (tOp (rIx K) ta tb) (dIx a b) := fun {B Z os ρ σ H Q d} f q k => by
  obtain ⟨e, i, e1, e2, e3⟩ := dIx_some q
  refine ha f e1 fun v H1 s1 i1 => hb (f.grow s1) e2 fun u H2 s2 i2 => ?_
  rw [i2.isInt]
  exact ix_is (i1.same s2) e3 fun w i3 => k _ _ (s1.trans s2) i3
theorem si_ix (ha : SemI K ta a) (hb : SemB K tb b) : SemI K (tOp (rIx K) ta tb) (dIx a b) := fun {B Z os ρ σ H Q d} f q k => by
  obtain ⟨e, i, e1, e2, e3⟩ := dIx_some q
  refine ha f e1 fun v H1 s1 i1 => hb (f.grow s1) e2 fun u H2 s2 i2 => ?_
  rw [i2.isInt]
  exact ix_is (i1.same s2) e3 fun w i3 => k _ _ (s1.trans s2) i3
/-! built-in functions of one argument, with a flat answer -/
def D.v : D → V
  | .bl b => .bl b
  | .int i => .int i
  | .str x => .str x
  | .ty n => .ty n
  | _ => .non
theorem D.v_is {H : Hp} {Z : Addr → Prop} {d : D} (h : d.scal = true) : Is K H Z d.v d := by
  cases d with
  | non => exact .non
  | bl b => exact .bl b
  | int b => exact .int b
  | str b => exact .str b
  | ty b => exact .ty b
  | _ => cases h
def dF1 (g : D → Option D) (a : DE) : DE := fun ρ => match a ρ with
  | some d => g d
  | none => none
theorem si_f1 {r : List V → Hp → VK → Prop} {g : D → Option D} (hg : ∀ {H v d e} {Q : VK}, Is K H No v d → g d = some e → e.scal = true ∧ (Q e.v H → r [v] H Q)) (ha : SemB K ta a) : SemI K (tCB r (tCons ta tNil)) (dF1 g a) := fun {B Z os ρ σ H Q d} f q k => by
  unfold dF1 at q
  split at q
  · rename_i e e1
    refine ha f e1 fun v H1 s1 i1 => ?_
    obtain ⟨hs, hr⟩ := hg (Q := Q) i1 q
    exact hr (k _ _ s1 (D.v_is hs))
  · cases q
def lenD : D → Option D
  | .lst ds => some (.int ds.length)
  | .tup ds => some (.int ds.length)
  | .scr ns => some (.int ns.length)
  | .str y => if y.length ≤ sizeLine then some (.int y.length) else none
  | _ => none
theorem len_is {H : Hp} {v : V} {d e : D} {Q : VK} (h : Is K H No v d) (q : lenD d = some e) : e.scal = true ∧ (Q e.v H → ∃ x n, [v] = [x] ∧ LenV K x H n ∧ Q (.int n) H) := by
  cases h with
  | lst hz h hl r => cases q; exact ⟨rfl, fun k => ⟨_, _, rfl, .inl ⟨_, .inl h, rfl⟩, by rw [r.length]; exact k⟩⟩
  | tup hz h hl r => cases q; exact ⟨rfl, fun k => ⟨_, _, rfl, .inr ⟨_, .inl (.inl h), rfl⟩, by rw [r.length]; exact k⟩⟩
  | str z =>
    have q : (if z.length ≤ sizeLine then some (D.int z.length) else none) = some e := q
    by_cases c : z.length ≤ sizeLine
    · rw [if_pos c] at q; cases q; exact ⟨rfl, fun k => ⟨_, _, rfl, ⟨c, rfl⟩, k⟩⟩
    · rw [if_neg c] at q; cases q
  | scr hz h hl => cases q; exact ⟨rfl, fun k => ⟨_, _, rfl, .inl ⟨_, .inl h, rfl⟩, by rw [List.length_map]; exact k⟩⟩
  | scrK h hl => cases q; exact ⟨rfl, fun k => ⟨_, _, rfl, .inl ⟨_, .inr h, rfl⟩, by rw [List.length_map]; exact k⟩⟩
  | _ => cases q
theorem si_len (ha : SemB K ta a) : SemI K (tCB (fun xs H Q => ∃ x n, xs = [x] ∧ LenV K x H n ∧ Q (.int n) H) (tCons ta tNil)) (dF1 lenD a) := si_f1 (fun h q => len_is h q) ha
def asInts : List D → Option (List Int)
  | [] => some []
  | .int i :: r => (asInts r).map (i :: ·)
  | _ => none
/-- over a list of ints -/
def ofInts (g : List Int → Option D) : D → Option D
  | .lst ds => (asInts ds).bind g
  | _ => none
theorem Is.ints {H : Hp} {Z : Addr → Prop} {v : V} {ns : List Int} (h : Is K H Z v (.lst (ns.map D.int))) : ∃ p, v = .ref p ∧ Rd H p (.lst (ns.map V.int)) := by
  generalize e : D.lst (ns.map D.int) = d at h
  cases h with
  | lst hz h hl r => cases e; rw [← r.ints]; exact ⟨_, rfl, h⟩
  | _ => cases e
/-- of two -/
def dMax2 : DE → DE → DE := dII fun i j => some (.int (if j > i then j else i))
def dMin2 : DE → DE → DE := dII fun i j => some (.int (if j < i then j else i))
theorem si_min2 (ha : SemB K ta a) (hb : SemB K tb b) : SemI K (tCB (fun xs H Q => ∃ i j, xs = [.int i, .int j] ∧ Q (.int (if j < i then j else i)) H) (tCons ta (tCons tb tNil))) (dMin2 a b) := fun {B Z os ρ σ H Q d} f q k => by
  obtain ⟨i, j, e1, e2, e3⟩ := dII_some q
  cases e3
  refine ha f e1 fun v H1 s1 i1 => hb (f.grow s1) e2 fun u H2 s2 i2 => ⟨i, j, by rw [i1.isInt, i2.isInt], k _ _ (s1.trans s2) (.int _)⟩
/-! slices, list(..), + -/
def cutL {α : Type} (xs : List α) (lo hi : Option Int) : List α := (xs.drop (HT.sIx xs.length 0 lo)).take (HT.sIx xs.length xs.length hi - HT.sIx xs.length 0 lo)
theorem cut_is {H : Hp} {Z : Addr → Prop} {vs : List V} {ds : List D} {lo hi : Option Int} (r : IsL K H Z vs ds) : IsL K H Z (cutV vs lo hi) (cutL ds lo hi) := by
  unfold cutV cutL
  rw [r.length]
  exact (r.drop _).take _
def SemO (K : PySem.W.Frag) (t : TO) (e : Rho → Option (Option Int)) : Prop := ∀ {B : Hp} {Z : Addr → Prop} {os : Own} {ρ : Rho} {σ : L2.St} {H : Hp} {Q : Option Int → Hp → Prop} {o : Option Int}, Fr K B Z os ρ σ H → e ρ = some o → (∀ H', Same H H' → Q o H') → t σ H Q
def oNone : Rho → Option (Option Int) := fun _ => some none
def oSome (a : DE) : Rho → Option (Option Int) := fun ρ => match a ρ with
  | some (.int i) => some (some i)
  | _ => none
theorem so_none : SemO K tNoPart oNone := fun f q k => by cases q; exact k _ (Same.refl _)
theorem so_some (ha : SemB K ta a) : SemO K (tPart ta) (oSome a) := fun {B Z os ρ σ H Q o} f q k => by
  unfold oSome at q
  split at q
  · rename_i i e
    cases q
    exact ha f e fun v H1 s1 i1 => ⟨i, i1.isInt, k _ s1⟩
  · cases q
def asL (a : DE) : Rho → Option (List D) := fun ρ => match a ρ with
  | some d => lof d
  | none => none
theorem asL_some {a : DE} {ρ : Rho} {ds : List D} (h : asL a ρ = some ds) : ∃ d, a ρ = some d ∧ lof d = some ds := by
  unfold asL at h
  split at h
  · exact ⟨_, by assumption, h⟩
  · cases h
def dSl (a : DE) (lo hi : Rho → Option (Option Int)) : Rho → Option (List D) := fun ρ => match asL a ρ with
  | some ds => (match lo ρ with
    | some l => (match hi ρ with
      | some h => some (cutL ds l h)
      | none => none)
    | none => none)
  | _ => none
theorem dSl_some {lo hi : Rho → Option (Option Int)} {ρ : Rho} {ds : List D} (h : dSl a lo hi ρ = some ds) : ∃ es l u, asL a ρ = some es ∧ lo ρ = some l ∧ hi ρ = some u ∧ ds = cutL es l u := by
  unfold dSl at h
  split at h
  · rename_i es e1
    split at h
    · rename_i l e2
      split at h
      · rename_i u e3
        exact ⟨es, l, u, e1, e2, e3, (Option.some.inj h).symm⟩
      · cases h
    · cases h
  · cases h
theorem Is.isLst {H : Hp} {Z : Addr → Prop} {v : V} {ds : List D} (h : Is K H Z v (.lst ds)) : ∃ p vs, v = .ref p ∧ ¬ Z p ∧ Rd H p (.lst vs) ∧ vs.length ≤ sizeLine ∧ IsL K H Z vs ds := by
  cases h with
  | lst hz h hl r => exact ⟨_, _, rfl, hz, h, hl, r⟩
theorem Is.isTup {H : Hp} {Z : Addr → Prop} {v : V} {ds : List D} (h : Is K H Z v (.tup ds)) : ∃ p vs, v = .ref p ∧ ¬ Z p ∧ H p = some (.tup vs) ∧ vs.length ≤ sizeLine ∧ IsL K H Z vs ds := by
  cases h with
  | tup hz h hl r => exact ⟨_, _, rfl, hz, h, hl, r⟩
theorem sf_sl {tl th : TO} {lo hi : Rho → Option (Option Int)} (ha : SemI K ta a) (hl : SemO K tl lo) (hh : SemO K th hi) : SemF K (tSl (rSlL K) ta tl th) (dSl a lo hi) := fun {B Z os ρ σ H Q ds} f q k => by
  obtain ⟨es, l, u, e1, e2, e3, rfl⟩ := dSl_some q
  obtain ⟨d, e1, ed⟩ := asL_some e1
  refine ha f e1 fun v H1 s1 i1 => hl (f.grow s1) e2 fun H2 s2 => hh (f.grow (s1.trans s2)) e3 fun H3 s3 => ?_
  obtain ⟨p, vs, rfl, hn, _, hr⟩ := i1.seq ed
  obtain ⟨hr, r⟩ := hr H3 _ (Kp.same (s2.trans s3))
  have s13 := (s1.trans s2).trans s3
  exact ⟨p, vs, rfl, hr, fun n hn' => k n _ _ (s13.trans (same_new hn')) (Same.free s13 hn') upd_same (Nat.le_trans (cutV_length _ _ _) hn) ((cut_is r).kp (kp_new hn'))⟩
/-- all flat -/
def flatL (ds : List D) : Bool := ds.all D.scal
theorem IsL.flat {H H' : Hp} {Z Z' : Addr → Prop} : ∀ {vs : List V} {ds : List D}, IsL K H Z vs ds → flatL ds = true → IsL K H' Z' vs ds
  | _, _, .nil, _ => .nil
  | _, _, .cons h r, e => by
    have e := (Bool.and_eq_true _ _).mp (show (D.scal _ && flatL _) = true from e)
    exact .cons (h.scal e.1) (r.flat e.2)
def dLof (a : DE) : Rho → Option (List D) := fun ρ => match a ρ with
  | some (.tup ds) => some ds
  | some d => lof d
  | _ => none
theorem dLof_some {ρ : Rho} {ds : List D} (h : dLof a ρ = some ds) : a ρ = some (.tup ds) ∨ ∃ d, a ρ = some d ∧ lof d = some ds := by
  unfold dLof at h
  split at h
  · rename_i es e; cases h; exact .inl e
  · rename_i d _ e; exact .inr ⟨d, e, h⟩
  · cases h
theorem sf_list (ha : SemI K ta a) : SemF K (tCB (fun xs H Q => ∃ p ys, xs = [.ref p] ∧ (SqL K H p ys ∨ SqT K H p ys) ∧ ∀ l, H l = none → Q (.ref l) (upd H l (.lst ys))) (tCons ta tNil)) (dLof a) := fun {B Z os ρ σ H Q ds} f q k => by
  rcases dLof_some q with e1 | ⟨d, e1, ed⟩
  · refine ha f e1 fun v H1 s1 i1 => ?_
    obtain ⟨p, vs, rfl, hz, hr, hn, r⟩ := i1.isTup
    exact ⟨p, vs, rfl, .inr (.inl (.inl hr)), fun n hn' => k n _ _ (s1.trans (same_new hn')) (Same.free s1 hn') upd_same hn (r.kp (kp_new hn'))⟩
  · refine ha f e1 fun v H1 s1 i1 => ?_
    obtain ⟨p, vs, rfl, hn, _, hr⟩ := i1.seq ed
    obtain ⟨hr, r⟩ := hr H1 _ Kp.refl
    exact ⟨p, vs, rfl, .inl hr, fun n hn' => k n _ _ (s1.trans (same_new hn')) (Same.free s1 hn') upd_same hn (r.kp (kp_new hn'))⟩
def dCat (a b : DE) : Rho → Option (List D) := fun ρ => match a ρ with
  | some (.lst ds) => (match b ρ with
    | some (.lst es) => if ds.length + es.length ≤ sizeLine then some (ds ++ es) else none
    | _ => none)
  | _ => none
theorem dCat_some {ρ : Rho} {ds : List D} (h : dCat a b ρ = some ds) : ∃ xs ys, a ρ = some (.lst xs) ∧ b ρ = some (.lst ys) ∧ xs.length + ys.length ≤ sizeLine ∧ ds = xs ++ ys := by
  unfold dCat at h
  split at h
  · rename_i xs e1
    split at h
    · rename_i ys e2
      by_cases c : xs.length + ys.length ≤ sizeLine
      · rw [if_pos c] at h; exact ⟨xs, ys, e1, e2, c, (Option.some.inj h).symm⟩
      · rw [if_neg c] at h; cases h
    · cases h
  · cases h
theorem sf_cat (ha : SemI K ta a) (hb : SemI K tb b) : SemF K (tOp rCatR ta tb) (dCat a b) := fun {B Z os ρ σ H Q ds} f q k => by
  obtain ⟨xs, ys, e1, e2, hc, rfl⟩ := dCat_some q
  refine ha f e1 fun v H1 s1 i1 => hb (f.grow s1) e2 fun u H2 s2 i2 => ?_
  obtain ⟨p, vs, rfl, hz, hr, hn, r⟩ := (i1.same s2).isLst
  obtain ⟨p2, us, rfl, hz2, hr2, hn2, r2⟩ := i2.isLst
  have hl : vs.length + us.length ≤ sizeLine := by rw [r.length, r2.length]; exact hc
  have s12 := s1.trans s2
  exact ⟨p, p2, vs, us, rfl, rfl, hr, hr2, hl, fun n hn' => k n _ _ (s12.trans (same_new hn')) (Same.free s12 hn') upd_same (by rw [List.length_append]; exact hl) ((r.append r2).kp (kp_new hn'))⟩
/-- [..] * n -/
def dRep (a : Rho → Option (List D)) (b : DE) : Rho → Option (List D) := fun ρ => match a ρ with
  | some ds => (match b ρ with
    | some (.int n) => if -(2 ^ 63) ≤ n ∧ n < 2 ^ 63 ∧ ds.length * n.toNat ≤ sizeLine then some (List.replicate n.toNat ds).flatten else none
    | _ => none)
  | none => none
theorem IsL.rep {H : Hp} {Z : Addr → Prop} {vs : List V} {ds : List D} (r : IsL K H Z vs ds) : ∀ n, IsL K H Z (List.replicate n vs).flatten (List.replicate n ds).flatten
  | 0 => .nil
  | n + 1 => by rw [List.replicate_succ, List.flatten_cons, List.replicate_succ, List.flatten_cons]; exact r.append (r.rep n)
theorem sf_rep {a : Rho → Option (List D)} (ha : SemF K ta a) (hb : SemB K tb b) : SemF K (tOp rRep ta tb) (dRep a b) := fun {B Z os ρ σ H Q ds} f q k => by
  unfold dRep at q
  split at q
  · rename_i es e1
    split at q
    · rename_i n e2
      by_cases c : -(2 ^ 63) ≤ n ∧ n < 2 ^ 63 ∧ es.length * n.toNat ≤ sizeLine
      · rw [if_pos c] at q
        cases q
        refine ha f e1 fun p vs H1 s1 hp hp' hl i1 => hb (f.grow s1) e2 fun u H2 s2 i2 => ?_
        rw [i2.isInt]
        have i1' := (i1.same s2).kp (Kp.less (Z' := tot Z os) fun a z => .inr z)
        have hlen : vs.length * n.toNat ≤ sizeLine := by rw [i1.length]; exact c.2.2
        have s12 := s1.trans s2
        refine ⟨p, n, vs, rfl, rfl, s2 _ _ hp', c.1, c.2.1, hlen, fun x hx => k x _ _ (s12.trans (same_new hx)) (Same.free s12 hx) upd_same ?_ ((i1'.rep _).kp (kp_new hx))⟩
        rw [len_rep, Nat.mul_comm]; exact hlen
      · rw [if_neg c] at q; cases q
    · cases q
  · cases q
end
end
end VL

set_option Elab.async false
set_option linter.all false
set_option maxRecDepth 100000
namespace VL
open PySem L2
open Classical
noncomputable section
/-! == of any two values of one form -/
instance : Inhabited D := ⟨.non⟩
theorem rd_lst {H : Hp} {a : Addr} {xs ys : List V} (h : Rd H a (.lst xs)) (h' : Rd H a (.lst ys)) : xs = ys := by
  rcases h with h | ⟨o, h⟩ <;> rcases h' with h' | ⟨o', h'⟩ <;> rw [h] at h' <;> cases h' <;> rfl
/-- may be compared: n deep -/
def cmpb : Nat → D → D → Bool
  | _, .int _, .int _ => true
  | _, .bl _, .bl _ => true
  | _, .str _, .str _ => true
  | _, .non, .non => true
  | n + 1, .lst xs, .lst ys => decide (xs.length ≠ ys.length) || (List.zip xs ys).all fun p => cmpb n p.1 p.2
  | n + 1, .tup xs, .tup ys => decide (xs.length = ys.length) && (List.zip xs ys).all fun p => cmpb n p.1 p.2
  | _, _, _ => false
theorem zip_at {xs ys : List D} {j : Nat} {a b : D} {p : D × D → Bool} (h : (List.zip xs ys).all p = true) (e1 : xs[j]? = some a) (e2 : ys[j]? = some b) : p (a, b) = true :=
  List.all_eq_true.mp h _ (List.mem_of_getElem? (i := j) (List.getElem?_zip_eq_some.mpr ⟨e1, e2⟩))
theorem Is.inj {H : Hp} {Z Z' : Addr → Prop} : ∀ (n : Nat) {v : V} {d e : D}, cmpb n d e = true → Is K H Z v d → Is K H Z' v e → d = e := by
  intro n
  induction n with
  | zero =>
    intro v d e hc i j
    cases i <;> cases j <;> first | rfl | cases hc
  | succ n ih =>
    have lists : ∀ {vs : List V} {ds es : List D}, (List.zip ds es).all (fun p => cmpb n p.1 p.2) = true → IsL K H Z vs ds → IsL K H Z' vs es → ds = es := by
      intro vs ds es hc r r'
      have l1 := r.length
      have l2 := r'.length
      refine List.ext_getElem (by omega) fun k h1 h2 => ?_
      obtain ⟨v, e1, i1⟩ := r.get (List.getElem?_eq_getElem h1)
      obtain ⟨v', e2, i2⟩ := r'.get (List.getElem?_eq_getElem h2)
      rw [e1] at e2
      cases e2
      exact ih (zip_at hc (List.getElem?_eq_getElem h1) (List.getElem?_eq_getElem h2)) i1 i2
    intro v d e hc i j
    cases i with
    | @lst p xs ds z1 h1 l1 g1 =>
      cases j with
      | @lst _ ys es z2 h2 l2 g2 =>
        have e := rd_lst h1 h2
        subst e
        have hl : ds.length = es.length := by have := g1.length; have := g2.length; omega
        have hc' : (List.zip ds es).all (fun p => cmpb n p.1 p.2) = true := by
          have : (decide (ds.length ≠ es.length) || (List.zip ds es).all fun p => cmpb n p.1 p.2) = true := hc
          simpa [hl] using this
        rw [lists hc' g1 g2]
      | _ => cases hc
    | @tup p xs ds z1 h1 l1 g1 =>
      cases j with
      | @tup _ ys es z2 h2 l2 g2 =>
        rw [h1] at h2
        cases h2
        have hc' : decide (ds.length = es.length) = true ∧ (List.zip ds es).all (fun p => cmpb n p.1 p.2) = true := by
          have : (decide (ds.length = es.length) && (List.zip ds es).all fun p => cmpb n p.1 p.2) = true := hc
          exact (Bool.and_eq_true _ _).mp this
        rw [lists hc'.2 g1 g2]
      | _ => cases hc
    | _ => cases j <;> first | rfl | cases hc
section
variable {X : Cx} {pins : List (Addr × Obj)} {σ : L2.St} {H : Hp} {s : Shared}
theorem dec_lst (xs ys : List D) : decide (D.lst xs = D.lst ys) = decide (xs = ys) := by
  rw [Bool.eq_iff_iff, decide_eq_true_iff, decide_eq_true_iff]
  exact ⟨fun h => D.lst.inj h, fun h => by rw [h]⟩
theorem dec_tup (xs ys : List D) : decide (D.tup xs = D.tup ys) = decide (xs = ys) := by
  rw [Bool.eq_iff_iff, decide_eq_true_iff, decide_eq_true_iff]
  exact ⟨fun h => D.tup.inj h, fun h => by rw [h]⟩
theorem dec_int (a b : Int) : decide (D.int a = D.int b) = (a == b) := by
  rw [Bool.eq_iff_iff, decide_eq_true_iff, beq_iff_eq]
  exact ⟨fun h => D.int.inj h, fun h => by rw [h]⟩
theorem dec_bl (a b : Bool) : decide (D.bl a = D.bl b) = (a == b) := by
  rw [Bool.eq_iff_iff, decide_eq_true_iff, beq_iff_eq]
  exact ⟨fun h => D.bl.inj h, fun h => by rw [h]⟩
theorem dec_str (a b : Str) : decide (D.str a = D.str b) = (a == b) := by
  rw [Bool.eq_iff_iff, decide_eq_true_iff, beq_iff_eq]
  exact ⟨fun h => D.str.inj h, fun h => by rw [h]⟩
theorem rc_tups {A : Around} {l b : Addr} {us ws : List Value} {ns ms : List D} (p1 : s.heap.IsTuple l us.toArray) (p2 : s.heap.IsTuple b ws.toArray) (hl : us.length = ns.length) (hl2 : ws.length = ms.length) (hs : ns.length = ms.length) (hu : A.units < cLine)
    (h : ∀ (j : Nat) (u v : Value) (a b : D), us[j]? = some u → ws[j]? = some v → ns[j]? = some a → ms[j]? = some b → SeqAt.EqAt A.in1 s u v (decide (a = b))) :
    SeqAt.RcAt A s (.ref l) (.ref b) (decide (ns = ms)) := by
  have q := SeqAt.RcAt.tuples (e := fun j => decide (ns.getD j default = ms.getD j default)) p1 p2 hu (eqAt_items hl hl2 h)
  have e : ((List.range (min us.toArray.size ws.toArray.size)).all fun j => decide (ns.getD j default = ms.getD j default)) = decide (ns = ms) := by
    rw [List.size_toArray, List.size_toArray, hl, hl2, ← hs, Nat.min_self]; exact range_all_eq default hs
  have e2 : (us.toArray.size == ws.toArray.size) = true := by simp; omega
  rw [e, e2, Bool.and_true] at q
  exact q
theorem rcNe_tups {A : Around} {l b : Addr} {us ws : List Value} {ns ms : List D} (p1 : s.heap.IsTuple l us.toArray) (p2 : s.heap.IsTuple b ws.toArray) (hl : us.length = ns.length) (hl2 : ws.length = ms.length) (hs : ns.length = ms.length) (hu : A.units < cLine)
    (h : ∀ (j : Nat) (u v : Value) (a b : D), us[j]? = some u → ws[j]? = some v → ns[j]? = some a → ms[j]? = some b → SeqAt.EqAt A.in1 s u v (decide (a = b))) :
    SeqAt.RcNeAt A s (.ref l) (.ref b) (!decide (ns = ms)) := by
  have q := SeqAt.RcNeAt.tuples (e := fun j => decide (ns.getD j default = ms.getD j default)) p1 p2 hu (eqAt_items hl hl2 h)
  have e : ((List.range (min us.toArray.size ws.toArray.size)).all fun j => decide (ns.getD j default = ms.getD j default)) = decide (ns = ms) := by
    rw [List.size_toArray, List.size_toArray, hl, hl2, ← hs, Nat.min_self]; exact range_all_eq default hs
  have e2 : (us.toArray.size == ws.toArray.size) = true := by simp; omega
  rw [e, e2, Bool.and_true] at q
  exact q
theorem in1_units {A : Around} : A.in1.units = A.units + 1 := rfl
/-- the items, by the comparison one deeper -/
theorem items_is {n : Nat} {A : Around} {xs ys : List V} {us ws : List Value} {ds es : List D} (hc : (List.zip ds es).all (fun p => cmpb n p.1 p.2) = true) (r1 : Vals xs us) (r2 : Vals ys ws) (g1 : IsL K H No xs ds) (g2 : IsL K H No ys es)
    (ih : ∀ {v w : V} {d e : D} {u x : Value}, RelV v u → RelV w x → Is K H No v d → Is K H No w e → cmpb n d e = true → SeqAt.EqAt A s u x (decide (d = e))) :
    ∀ (j : Nat) (u v : Value) (a b : D), us[j]? = some u → ws[j]? = some v → ds[j]? = some a → es[j]? = some b → SeqAt.EqAt A s u v (decide (a = b)) := by
  intro j u v a b e1 e2 e3 e4
  obtain ⟨x, f1, i1⟩ := g1.get e3
  obtain ⟨y, f2, i2⟩ := g2.get e4
  obtain ⟨u', q1, k1⟩ := r1.get f1
  obtain ⟨v', q2, k2⟩ := r2.get f2
  rw [e1] at q1; cases q1
  rw [e2] at q2; cases q2
  exact ih k1 k2 i1 i2 (zip_at hc e3 e4)
theorem eqAt_is (I : Inv X pins σ H s) : ∀ (n : Nat) {A : Around}, A.units + n < cLine → ∀ {v w : V} {d e : D} {u x : Value}, RelV v u → RelV w x → Is K H No v d → Is K H No w e → cmpb n d e = true → SeqAt.EqAt A s u x (decide (d = e)) := by
  intro n
  induction n with
  | zero =>
    intro A hu v w d e u x r1 r2 i1 i2 hc
    cases i1 with
    | int a =>
      cases i2 with
      | int b => obtain ⟨t, rfl⟩ := r1; obtain ⟨t', rfl⟩ := r2; rw [dec_int]; exact SeqAt.EqAt.int_int a t b t'
      | _ => cases hc
    | bl a =>
      cases i2 with
      | bl b => cases r1; cases r2; rw [dec_bl]; exact SeqAt.EqAt.bool_bool a b
      | _ => cases hc
    | str a =>
      cases i2 with
      | str b => obtain ⟨t, rfl⟩ := r1; obtain ⟨t', rfl⟩ := r2; rw [dec_str]; exact SeqAt.EqAt.str_str a t b t'
      | _ => cases hc
    | non =>
      cases i2 with
      | non => cases r1; cases r2; rw [decide_eq_true rfl]; exact SeqAt.EqAt.same _
      | _ => cases hc
    | _ => cases i2 <;> cases hc
  | succ n ih =>
    intro A hu v w d e u x r1 r2 i1 i2 hc
    cases i1 with
    | int a =>
      cases i2 with
      | int b => obtain ⟨t, rfl⟩ := r1; obtain ⟨t', rfl⟩ := r2; rw [dec_int]; exact SeqAt.EqAt.int_int a t b t'
      | _ => cases hc
    | bl a =>
      cases i2 with
      | bl b => cases r1; cases r2; rw [dec_bl]; exact SeqAt.EqAt.bool_bool a b
      | _ => cases hc
    | str a =>
      cases i2 with
      | str b => obtain ⟨t, rfl⟩ := r1; obtain ⟨t', rfl⟩ := r2; rw [dec_str]; exact SeqAt.EqAt.str_str a t b t'
      | _ => cases hc
    | non =>
      cases i2 with
      | non => cases r1; cases r2; rw [decide_eq_true rfl]; exact SeqAt.EqAt.same _
      | _ => cases hc
    | @lst p xs ds z1 h1 l1 g1 =>
      have i1 : Is K H No (.ref p) (.lst ds) := .lst z1 h1 l1 g1
      cases i2 with
      | @lst q ys es z2 h2 l2 g2 =>
        have i2 : Is K H No (.ref q) (.lst es) := .lst z2 h2 l2 g2
        cases r1
        cases r2
        by_cases hpq : p = q
        · subst hpq
          rw [decide_eq_true (Is.inj _ hc i1 i2)]
          exact SeqAt.EqAt.same _
        · obtain ⟨_, us, m1, k1, n1, o1⟩ := I.lstR h1
          obtain ⟨_, ws, m2, k2, n2, o2⟩ := I.lstR h2
          rw [dec_lst]
          have e1 := g1.length
          have e2 := g2.length
          refine SeqAt.EqAt.of_refs hpq ?_
          by_cases hl : ds.length = es.length
          · have hc' : (List.zip ds es).all (fun p => cmpb n p.1 p.2) = true := by
              have : (decide (ds.length ≠ es.length) || (List.zip ds es).all fun p => cmpb n p.1 p.2) = true := hc
              simpa [hl] using this
            exact rcAt_lists ⟨_, o1, rfl, _, rfl⟩ ⟨_, o2, rfl, _, rfl⟩ (by omega) (by omega) (by omega) (items_is hc' k1 k2 g1 g2 (ih (by rw [in1_units]; omega)))
          · have q := SeqAt.RcAt.lists_lengths (A := A) (s := s) (items := us.toArray) (items2 := ws.toArray) ⟨_, o1, rfl, _, rfl⟩ ⟨_, o2, rfl, _, rfl⟩ (by simp; omega) (by omega)
            have e : decide (ds = es) = false := decide_eq_false fun z => hl (by rw [z])
            rw [e]
            exact q
      | _ => cases hc
    | @tup p xs ds z1 h1 l1 g1 =>
      have i1 : Is K H No (.ref p) (.tup ds) := .tup z1 h1 l1 g1
      cases i2 with
      | @tup q ys es z2 h2 l2 g2 =>
        have i2 : Is K H No (.ref q) (.tup es) := .tup z2 h2 l2 g2
        cases r1
        cases r2
        by_cases hpq : p = q
        · subst hpq
          rw [decide_eq_true (Is.inj _ hc i1 i2)]
          exact SeqAt.EqAt.same _
        · obtain ⟨us, k1, o1, _⟩ := I.tuple (xs := xs) (.inl (.inl h1))
          obtain ⟨ws, k2, o2, _⟩ := I.tuple (xs := ys) (.inl (.inl h2))
          rw [dec_tup]
          have e1 := g1.length
          have e2 := g2.length
          have n1 := k1.length
          have n2 := k2.length
          have hc' : decide (ds.length = es.length) = true ∧ (List.zip ds es).all (fun p => cmpb n p.1 p.2) = true := by
            have : (decide (ds.length = es.length) && (List.zip ds es).all fun p => cmpb n p.1 p.2) = true := hc
            exact (Bool.and_eq_true _ _).mp this
          exact SeqAt.EqAt.of_refs hpq (rc_tups o1 o2 (by omega) (by omega) (of_decide_eq_true hc'.1) (by omega) (items_is hc'.2 k1 k2 g1 g2 (ih (by rw [in1_units]; omega))))
      | _ => cases hc
    | _ => cases i2 <;> cases hc
def rEqD (K : PySem.W.Frag) (neg : Bool) : R2 := fun x y H Q => ∃ d e, Is K H No x d ∧ Is K H No y e ∧ cmpb 20 d e = true ∧ Q (.bl (if neg = true then !decide (d = e) else decide (d = e))) H
theorem decV (v w : V) {H : Hp} {d e : D} (i : Is K H No v d) (j : Is K H No w e) (hd : d.scal = true) (he : e.scal = true) : decide (v = w) = decide (d = e) := by
  rw [Bool.eq_iff_iff, decide_eq_true_iff, decide_eq_true_iff]
  constructor
  · rintro rfl; cases i <;> cases j <;> first | rfl | cases hd
  · rintro rfl; cases i <;> cases j <;> first | rfl | cases hd
theorem op_eqD (hu : X.A.units + 64 < cLine) : OpR X (compareOp .Eq) (rEqD K false) := by
  intro pins s σ H x y v u Q I rx ry h
  obtain ⟨d, e, i1, i2, hc, h⟩ := h
  rw [if_neg Bool.false_ne_true] at h
  by_cases hs : d.scal = true ∧ e.scal = true
  · refine op_eq pins s σ H x y v u Q I rx ry ⟨?_, by rw [decV x y i1 i2 hs.1 hs.2]; exact h⟩
    cases i1 <;> cases i2 <;> first | rfl | cases hc | cases hs.1 | cases hs.2
  · cases i1 with
    | @lst p xs ds z1 h1 l1 g1 =>
      cases i2 with
      | @lst q ys es z2 h2 l2 g2 =>
        cases rx
        cases ry
        obtain ⟨_, us, m1, k1, n1, o1⟩ := I.lstR h1
        obtain ⟨_, ws, m2, k2, n2, o2⟩ := I.lstR h2
        rw [dec_lst] at h
        have e1 := g1.length
        have e2 := g2.length
        by_cases hl : ds.length = es.length
        · have hc' : (List.zip ds es).all (fun p => cmpb 19 p.1 p.2) = true := by
            have : (decide (ds.length ≠ es.length) || (List.zip ds es).all fun p => cmpb 19 p.1 p.2) = true := hc
            simpa [hl] using this
          exact rcAt_lists ⟨_, o1, rfl, _, rfl⟩ ⟨_, o2, rfl, _, rfl⟩ (by omega) (by omega) (by omega) (items_is hc' k1 k2 g1 g2 (eqAt_is I 19 (by rw [in1_units]; omega))) X.prog X.w X.xe _ ⟨.bl _, H, I, rfl, h⟩
        · have q := SeqAt.RcAt.lists_lengths (A := X.A) (s := s) (items := us.toArray) (items2 := ws.toArray) ⟨_, o1, rfl, _, rfl⟩ ⟨_, o2, rfl, _, rfl⟩ (by simp; omega) (by omega)
          have e : decide (ds = es) = false := decide_eq_false fun z => hl (by rw [z])
          rw [e] at h
          exact q X.prog X.w X.xe _ ⟨.bl _, H, I, rfl, h⟩
      | _ => cases hc
    | @tup p xs ds z1 h1 l1 g1 =>
      cases i2 with
      | @tup q ys es z2 h2 l2 g2 =>
        cases rx
        cases ry
        obtain ⟨us, k1, o1, _⟩ := I.tuple (xs := xs) (.inl (.inl h1))
        obtain ⟨ws, k2, o2, _⟩ := I.tuple (xs := ys) (.inl (.inl h2))
        rw [dec_tup] at h
        have e1 := g1.length
        have e2 := g2.length
        have n1 := k1.length
        have n2 := k2.length
        have hc' : decide (ds.length = es.length) = true ∧ (List.zip ds es).all (fun p => cmpb 19 p.1 p.2) = true := by
          have : (decide (ds.length = es.length) && (List.zip ds es).all fun p => cmpb 19 p.1 p.2) = true := hc
          exact (Bool.and_eq_true _ _).mp this
        exact rc_tups o1 o2 (by omega) (by omega) (of_decide_eq_true hc'.1) (by omega) (items_is hc'.2 k1 k2 g1 g2 (eqAt_is I 19 (by rw [in1_units]; omega))) X.prog X.w X.xe _ ⟨.bl _, H, I, rfl, h⟩
      | _ => cases hc
    | _ => exfalso; cases i2 <;> first | exact hs ⟨rfl, rfl⟩ | cases hc
theorem op_neD (hu : X.A.units + 64 < cLine) : OpR X (compareOp .NotEq) (rEqD K true) := by
  intro pins s σ H x y v u Q I rx ry h
  obtain ⟨d, e, i1, i2, hc, h⟩ := h
  rw [if_pos rfl] at h
  by_cases hs : d.scal = true ∧ e.scal = true
  · refine op_ne pins s σ H x y v u Q I rx ry ⟨?_, by rw [decV x y i1 i2 hs.1 hs.2]; exact h⟩
    cases i1 <;> cases i2 <;> first | rfl | cases hc | cases hs.1 | cases hs.2
  · cases i1 with
    | @lst p xs ds z1 h1 l1 g1 =>
      cases i2 with
      | @lst q ys es z2 h2 l2 g2 =>
        cases rx
        cases ry
        obtain ⟨_, us, m1, k1, n1, o1⟩ := I.lstR h1
        obtain ⟨_, ws, m2, k2, n2, o2⟩ := I.lstR h2
        rw [dec_lst] at h
        have e1 := g1.length
        have e2 := g2.length
        by_cases hl : ds.length = es.length
        · have hc' : (List.zip ds es).all (fun p => cmpb 19 p.1 p.2) = true := by
            have : (decide (ds.length ≠ es.length) || (List.zip ds es).all fun p => cmpb 19 p.1 p.2) = true := hc
            simpa [hl] using this
          exact rcNeAt_lists ⟨_, o1, rfl, _, rfl⟩ ⟨_, o2, rfl, _, rfl⟩ (by omega) (by omega) (by omega) (items_is hc' k1 k2 g1 g2 (eqAt_is I 19 (by rw [in1_units]; omega))) X.prog X.w X.xe _ ⟨.bl _, H, I, rfl, h⟩
        · have q := SeqAt.RcNeAt.lists_lengths (A := X.A) (s := s) (items := us.toArray) (items2 := ws.toArray) ⟨_, o1, rfl, _, rfl⟩ ⟨_, o2, rfl, _, rfl⟩ (by simp; omega) (by omega)
          have e : decide (ds = es) = false := decide_eq_false fun z => hl (by rw [z])
          rw [e] at h
          exact q X.prog X.w X.xe _ ⟨.bl _, H, I, rfl, h⟩
      | _ => cases hc
    | @tup p xs ds z1 h1 l1 g1 =>
      cases i2 with
      | @tup q ys es z2 h2 l2 g2 =>
        cases rx
        cases ry
        obtain ⟨us, k1, o1, _⟩ := I.tuple (xs := xs) (.inl (.inl h1))
        obtain ⟨ws, k2, o2, _⟩ := I.tuple (xs := ys) (.inl (.inl h2))
        rw [dec_tup] at h
        have e1 := g1.length
        have e2 := g2.length
        have n1 := k1.length
        have n2 := k2.length
        have hc' : decide (ds.length = es.length) = true ∧ (List.zip ds es).all (fun p => cmpb 19 p.1 p.2) = true := by
          have : (decide (ds.length = es.length) && (List.zip ds es).all fun p => cmpb 19 p.1 p.2) = true := hc
          exact (Bool.and_eq_true _ _).mp this
        exact rcNe_tups o1 o2 (by omega) (by omega) (of_decide_eq_true hc'.1) (by omega) (items_is hc'.2 k1 k2 g1 g2 (eqAt_is I 19 (by rw [in1_units]; omega))) X.prog X.w X.xe _ ⟨.bl _, H, I, rfl, h⟩
      | _ => cases hc
    | _ => exfalso; cases i2 <;> first | exact hs ⟨rfl, rfl⟩ | cases hc
end
section
variable {ta tb : TE} {a b : DE}
def dEq (neg : Bool) (a b : DE) : DE := fun ρ => match a ρ with
  | some d => (match b ρ with
    | some e => if cmpb 20 d e = true then some (.bl (if neg = true then !decide (d = e) else decide (d = e))) else none
    | none => none)
  | none => none
theorem si_eq {neg : Bool} (ha : SemB K ta a) (hb : SemB K tb b) : SemI K (tOp (rEqD K neg) ta tb) (dEq neg a b) := fun {B Z os ρ σ H Q d} f q k => by
  unfold dEq at q
  split at q
  · rename_i x e1
    split at q
    · rename_i y e2
      by_cases c : cmpb 20 x y = true
      · rw [if_pos c] at q
        cases q
        exact ha f e1 fun v H1 s1 i1 => hb (f.grow s1) e2 fun u H2 s2 i2 => ⟨x, y, i1.same s2, i2, c, k _ _ (s1.trans s2) (.bl _)⟩
      · rw [if_neg c] at q; cases q
    · cases q
  · cases q
end
end
end VL

set_option Elab.async false
set_option linter.all false
set_option maxRecDepth 100000
namespace L2
open PySem PySem.Spec PyProof.Rows
section
variable {X : Cx}
end
end L2
namespace VL
open PySem L2
open Classical
noncomputable section
variable {K : PySem.W.Frag}
/-- a value of the heap at the entry -/
def SemO' (K : PySem.W.Frag) (t : TE) (e : DE) : Prop := ∀ {B : Hp} {Z : Addr → Prop} {os : Own} {ρ : Rho} {σ : L2.St} {H : Hp} {Q : VK} {d : D}, Fr K B Z os ρ σ H → e ρ = some d → (∀ v H', Same H H' → Is K B No v d → Q v H') → t σ H Q
def dVarO (i : Nat) : DE := fun ρ => match ρ.getD i .un with
  | .bo d => some d
  | _ => none
theorem so_var (i : Nat) : SemO' K (tVar i) (dVarO i) := fun {B Z os ρ σ H Q d} f q k => by
  have s := f.sl i
  unfold dVarO at q
  cases e : ρ.getD i .un with
  | bo d' =>
    rw [e] at q s
    cases q
    obtain ⟨_, u, hu, i⟩ := s
    exact ⟨u, join_some hu, k u H (Same.refl _) i⟩
  | _ => rw [e] at q; cases q
theorem SemO'.b {t : TE} {e : DE} (h : SemO' K t e) : SemB K t e := fun f q k => h f q fun v H' s i => k v H' s (i.same (f.keep.trans s))

/-! what is walked: m: by none of the owned addresses; else of the heap Bx -/
def ER (K : PySem.W.Frag) (m : Bool) (Bx H : Hp) (T : Addr → Prop) (x : V) (d : D) : Prop := match m with
  | true => Is K H T x d
  | false => Is K Bx No x d
structure Walk (K : PySem.W.Frag) (m : Bool) (Bx : Hp) (J : It) (H1 : Hp) (T : Addr → Prop) (ds : List D) : Prop where
  len : ds.length ≤ sizeLine
  go : ∀ (i : Nat) (d : D) (H2 : Hp) (T2 : Addr → Prop), Kp T H1 T2 H2 → Same Bx H2 → (∀ a, T2 a → ∃ o, H2 a = some o) → ds[i]? = some d → J.go i H2 ∧ ∀ x H3, J.yld i H2 x H3 → Same H2 H3 ∧ ER K m Bx H3 T2 x d
  stop : ∀ (i : Nat) (H2 : Hp) (T2 : Addr → Prop), Kp T H1 T2 H2 → Same Bx H2 → ds.length = i → J.stop i H2
/-- in a def: Bx the heap at the entry; in a comprehension: as it stands at its begin -/
def SemW (K : PySem.W.Frag) (m : Bool) (wi : TI) (e : Rho → Option (List D)) : Prop := ∀ {B : Hp} {Z : Addr → Prop} {os : Own} {ρ : Rho} {σ : L2.St} {H : Hp} {R : It → Hp → Prop} {ds : List D}, Fr K B Z os ρ σ H → e ρ = some ds → (∀ J H1, Same H H1 → Walk K m B J H1 (tot Z os) ds → R J H1) → wi σ H R
def SemWC (K : PySem.W.Frag) (m : Bool) (wi : TI) (e : Rho → Option (List D)) : Prop := ∀ {B : Hp} {Z : Addr → Prop} {os : Own} {ρ : Rho} {σ : L2.St} {H : Hp} {R : It → Hp → Prop} {ds : List D}, Fr K B Z os ρ σ H → e ρ = some ds → (∀ J H1, Same H H1 → Walk K m H1 J H1 (tot Z os) ds → R J H1) → wi σ H R
theorem SemW.c {wi : TI} {e : Rho → Option (List D)} (h : SemW K true wi e) : SemWC K true wi e := fun f q k => h f q fun J H1 s w => k J H1 s ⟨w.len, fun i d H2 T2 kp sm hd e => w.go i d H2 T2 kp ((f.keep.trans s).trans sm) hd e, fun i H2 T2 kp sm hl => w.stop i H2 T2 kp ((f.keep.trans s).trans sm) hl⟩
theorem Rd.dom {H : Hp} {a : Addr} {u : HO} (h : Rd H a u) : ∃ o, H a = some o := by
  rcases h with h | ⟨o, h⟩ <;> exact ⟨_, h⟩
theorem Rd.same {H H' : Hp} {a : Addr} {u : HO} (h : Rd H a u) (s : Same H H') : Rd H' a u := by
  rcases h with h | ⟨o, h⟩
  · exact .inl (s _ _ h)
  · exact .inr ⟨o, s _ _ h⟩
theorem walk_list {m : Bool} {Bx H1 : Hp} {T : Addr → Prop} {p : Addr} {vs : List V} {ds : List D} (hl : ds.length ≤ sizeLine) (hd0 : ∀ H2 T2, Kp T H1 T2 H2 → Same Bx H2 → SqL K H2 p vs) (hn : vs.length = ds.length)
    (hi : ∀ H2 T2 (i : Nat) v d, Kp T H1 T2 H2 → Same Bx H2 → vs[i]? = some v → ds[i]? = some d → ER K m Bx H2 T2 v d) : Walk K m Bx (Itl K p) H1 T ds := by
  refine ⟨hl, fun i d H2 T2 kp sb hd e => ?_, fun i H2 T2 kp sb hi => ⟨vs, hd0 H2 T2 kp sb, by omega⟩⟩
  have hr2 := hd0 H2 T2 kp sb
  have hi' : i < vs.length := by rw [hn]; exact (List.getElem?_eq_some_iff.mp e).1
  have e1 : vs[i]? = some vs[i] := List.getElem?_eq_getElem hi'
  refine ⟨⟨vs, _, hr2, e1⟩, fun x H3 ⟨e3, hx⟩ => ?_⟩
  subst e3
  have := hx vs hr2
  rw [e1] at this
  cases this
  exact ⟨Same.refl _, hi _ T2 i _ d kp sb e1 e⟩
theorem sw_listO {tl : TE} {a : DE} (ha : SemO' K tl a) : SemW K false (iList K tl) (asL a) := fun {B Z os ρ σ H R ds} f q k => by
  obtain ⟨d, q, ed⟩ := asL_some q
  refine ha f q fun v H1 s1 i1 => ?_
  obtain ⟨p, vs, rfl, hl, hn, hr⟩ := i1.seq ed
  refine ⟨p, rfl, ⟨vs, (hr H1 No (Kp.same (f.keep.trans s1))).1⟩, k _ _ s1 (walk_list (vs := vs) (by omega) (fun H2 T2 kp sb => (hr H2 No (Kp.same sb)).1) hn fun H2 T2 i v d kp sb e1 e2 => ?_)⟩
  obtain ⟨v', f1, i2⟩ := (hr B No Kp.refl).2.get e2
  rw [e1] at f1
  cases f1
  exact i2
theorem swc_listB {tl : TE} {a : DE} (ha : SemB K tl a) : SemWC K false (iList K tl) (asL a) := fun {B Z os ρ σ H R ds} f q k => by
  obtain ⟨d, q, ed⟩ := asL_some q
  refine ha f q fun v H1 s1 i1 => ?_
  obtain ⟨p, vs, rfl, hl, hn, hr⟩ := i1.seq ed
  refine ⟨p, rfl, ⟨vs, (hr H1 _ Kp.refl).1⟩, k _ _ s1 (walk_list (vs := vs) (by omega) (fun H2 T2 kp sb => (hr H2 No (Kp.same sb)).1) hn fun H2 T2 i v d kp sb e1 e2 => ?_)⟩
  obtain ⟨v', f1, i2⟩ := (hr H1 No Kp.refl).2.get e2
  rw [e1] at f1
  cases f1
  exact i2
/-- lo, lo + 1, .. n of them -/
def upL (lo : Int) (n : Nat) : List D := (List.range n).map fun (i : Nat) => .int (lo + (i : Int))
theorem upL_len {lo : Int} {n : Nat} : (upL lo n).length = n := by unfold upL; rw [List.length_map, List.length_range]
theorem upL_get {lo : Int} {n i : Nat} {d : D} (h : (upL lo n)[i]? = some d) : i < n ∧ d = .int (lo + i) := by
  unfold upL at h
  rw [List.getElem?_map] at h
  by_cases hi : i < n
  · rw [List.getElem?_range hi] at h; cases h; exact ⟨hi, rfl⟩
  · rw [List.getElem?_eq_none (by rw [List.length_range]; omega)] at h; cases h
theorem walk_range {m : Bool} {Bx H1 : Hp} {T : Addr → Prop} {lo : Int} {n : Nat} (hn : n ≤ sizeLine) : Walk K m Bx (Itr lo n) H1 T (upL lo n) := by
  refine ⟨by rw [upL_len]; exact hn, fun i d H2 T2 kp _ hd e => ?_, fun i H2 T2 kp _ hi => by rw [upL_len] at hi; exact Nat.le_of_eq hi⟩
  obtain ⟨hi, rfl⟩ := upL_get e
  refine ⟨hi, fun x H3 ⟨e3, ex⟩ => ?_⟩
  subst e3 ex
  cases m
  · exact ⟨Same.refl _, .int _⟩
  · exact ⟨Same.refl _, .int _⟩
def dRg1 (a : DE) : Rho → Option (List D) := fun ρ => match a ρ with
  | some (.int j) => if -(2 ^ 62) ≤ j ∧ j.toNat ≤ sizeLine then some (upL 0 j.toNat) else none
  | _ => none
def dRg2 (a b : DE) : Rho → Option (List D) := fun ρ => match a ρ with
  | some (.int i) => (match b ρ with
    | some (.int j) => if -(2 ^ 62) ≤ i ∧ i < 2 ^ 62 ∧ -(2 ^ 62) ≤ j ∧ j < 2 ^ 62 ∧ (j - i).toNat ≤ sizeLine then some (upL i (j - i).toNat) else none
    | _ => none)
  | _ => none
theorem sw_range1 {ta : TE} {a : DE} (ha : SemB K ta a) : SemW K true (iRng1 (tCons ta tNil)) (dRg1 a) := fun {B Z os ρ σ H R ds} f q k => by
  unfold dRg1 at q
  split at q
  · rename_i j e
    by_cases c : -(2 ^ 62) ≤ j ∧ j.toNat ≤ sizeLine
    · rw [if_pos c] at q
      cases q
      have hs : sizeLine = 16777216 := sizeLine_eq
      exact ha f e fun v H1 s1 i1 => ⟨j, by rw [i1.isInt], c.1, by omega, k _ _ s1 (walk_range c.2)⟩
    · rw [if_neg c] at q; cases q
  · cases q
theorem sw_range2 {ta tb : TE} {a b : DE} (ha : SemB K ta a) (hb : SemB K tb b) : SemW K true (iRng2 (tCons ta (tCons tb tNil))) (dRg2 a b) := fun {B Z os ρ σ H R ds} f q k => by
  unfold dRg2 at q
  split at q
  · rename_i i e
    split at q
    · rename_i j e2
      by_cases c : -(2 ^ 62) ≤ i ∧ i < 2 ^ 62 ∧ -(2 ^ 62) ≤ j ∧ j < 2 ^ 62 ∧ (j - i).toNat ≤ sizeLine
      · rw [if_pos c] at q
        cases q
        exact ha f e fun v H1 s1 i1 => hb (f.grow s1) e2 fun u H2 s2 i2 => ⟨i, j, by rw [i1.isInt, i2.isInt], ⟨c.1, c.2.1, c.2.2.1, c.2.2.2.1⟩, k _ _ (s1.trans s2) (walk_range c.2.2.2.2)⟩
      · rw [if_neg c] at q; cases q
    · cases q
  · cases q
/-! targets -/
abbrev DG := D → Rho → Option Rho
def SemG (K : PySem.W.Frag) (m : Bool) (g : TG) (e : DG) : Prop := ∀ {B : Hp} {Z : Addr → Prop} {os : Own} {ρ : Rho} {σ : L2.St} {H : Hp} {Q : L2.St → Hp → Prop} {v : V} {d : D} {ρ' : Rho}, Fr K B Z os ρ σ H → ER K m B H (tot Z os) v d → e d ρ = some ρ' →
  (∀ os' σ', Fr K B Z os' ρ' σ' H → Kp (tot Z os) H (tot Z os') H → Q σ' H) → g v σ H Q
def slm (m : Bool) (d : D) : Sl := match m with
  | true => .pu d
  | false => .bo d
def gN (m : Bool) (i : Nat) : DG := fun d ρ => some (ρ.set i (slm m d))
theorem Fr.putm {B H : Hp} {Z : Addr → Prop} {os : Own} {ρ : Rho} {σ : L2.St} (f : Fr K B Z os ρ σ H) {m : Bool} (i : Nat) {v : V} {d : D} (h : ER K m B H (tot Z os) v d) :
    ∃ os', Fr K B Z os' (ρ.set i (slm m d)) (σ.set i (some v)) H ∧ Kp (tot Z os) H (tot Z os') H := by
  by_cases hi : i < ρ.length
  · cases m with
    | true => exact ⟨_, f.put hi h⟩
    | false => exact ⟨_, f.step (s := .bo d) (v := some v) hi (fun a u e _ => e) (fun a ha => let ⟨xs, e⟩ := (f.sl i).dom ha; ⟨_, e⟩) List.nodup_nil (fun a h => by cases h) ⟨rfl, v, rfl, h⟩⟩
  · have e1 : ρ.set i (slm m d) = ρ := List.set_eq_of_length_le (by omega)
    have e2 : σ.set i (some v) = σ := List.set_eq_of_length_le (by rw [f.len]; omega)
    rw [e1, e2]
    exact ⟨os, f, Kp.refl⟩
theorem sg_name {m : Bool} (i : Nat) : SemG K m (gName i) (gN m i) := fun {B Z os ρ σ H Q v d ρ'} f h q k => by
  cases q
  obtain ⟨os', f', kp⟩ := f.putm i h
  exact k os' _ f' kp
/-! comprehensions -/
theorem Fr.tin {B H : Hp} {Z : Addr → Prop} {os : Own} {ρ : Rho} {σ : L2.St} (f : Fr K B Z os ρ σ H) : ∀ a, tot Z os a → ∃ o, H a = some o := by
  rintro a (z | ⟨i, z⟩)
  · exact f.zin a z
  · obtain ⟨xs, e⟩ := (f.sl i).dom z
    exact ⟨_, e⟩
def view : Sl → Sl
  | .pu d => .pu d
  | .bo d => .bo d
  | .ol ds => .bo (.lst ds)
  | .om rows => .bo (.lst (rows.map D.lst))
  | .un => .un
/-- the block's names: k targets, then the names asked -/
def r0 (k : Nat) (cs : List Nat) (ρ : Rho) : Rho := List.replicate k .un ++ cs.map fun i => view (ρ.getD i .un)
def s0 (k : Nat) (cs : List Nat) (σ : L2.St) : L2.St := List.replicate k none ++ cs.map fun i => (σ[i]?).join
theorem blockFr {B H1 H : Hp} {Z : Addr → Prop} {os : Own} {ρ : Rho} {σ : L2.St} {Dl : Addr} {o : HO} (f : Fr K B Z os ρ σ H1) (hD : H1 Dl = none) (s : Same H1 H) (hd : H Dl = some o) (k : Nat) (cs : List Nat) :
    Fr K H1 (fun a => a = Dl ∨ tot Z os a) (fun _ => []) (r0 k cs ρ) (s0 k cs σ) H where
  keep := s
  zin := fun a z => by
    rcases z with rfl | z
    · exact ⟨o, hd⟩
    · obtain ⟨u, e⟩ := f.tin a z
      exact ⟨u, s _ _ e⟩
  len := by unfold r0 s0; simp
  nd := fun _ => List.nodup_nil
  dj := fun _ _ _ h => by cases h
  new := fun _ _ h => by cases h
  sl := fun j => by
    have kp : Kp (tot Z os) H1 (tot (fun a => a = Dl ∨ tot Z os a) fun _ => []) H := fun a u e z => by
      refine ⟨s _ _ e, ?_⟩
      rintro ((rfl | q) | ⟨_, q⟩)
      · rw [hD] at e; cases e
      · exact z q
      · cases q
    unfold r0 s0
    rw [List.getD_eq_getElem?_getD]
    by_cases hj : j < k
    · rw [List.getElem?_append_left (by simpa using hj), List.getElem?_append_left (by simpa using hj), List.getElem?_replicate, if_pos hj]
      exact rfl
    · rw [List.getElem?_append_right (by simpa using hj), List.getElem?_append_right (by simpa using hj), List.length_replicate, List.length_replicate, List.getElem?_map, List.getElem?_map]
      cases e : cs[j - k]? with
      | none => exact rfl
      | some i =>
        have h := f.sl i
        show SlOk K _ _ _ _ (view (ρ.getD i .un)) ((σ[i]?).join)
        cases e2 : ρ.getD i .un with
        | un => exact rfl
        | pu d =>
          rw [e2] at h
          obtain ⟨_, u, hu, i1⟩ := h
          exact ⟨rfl, u, hu, i1.kp kp⟩
        | bo d =>
          rw [e2] at h
          obtain ⟨_, u, hu, i1⟩ := h
          exact ⟨rfl, u, hu, i1.same f.keep⟩
        | ol ds =>
          rw [e2] at h
          obtain ⟨a, vs, _, hu, hH, hl, i1⟩ := h
          exact ⟨rfl, _, hu, .lst (fun z => z) (.inl hH) hl i1.all⟩
        | om rows =>
          rw [e2] at h
          obtain ⟨a, ps, _, hu, hH, hl, i1⟩ := h
          exact ⟨rfl, _, hu, .lst (fun z => z) (.inl hH) (by rw [List.length_map]; exact hl) (rows_is i1)⟩
def compGo (g : DG) (t : Rho → Option Bool) (e : DE) (ρ0 : Rho) : List D → Option (List D)
  | [] => some []
  | d :: ds => match g d ρ0 with
    | none => none
    | some ρ1 => match t ρ1 with
      | none => none
      | some false => compGo g t e ρ0 ds
      | some true => match e ρ1 with
        | none => none
        | some y => match compGo g t e ρ0 ds with
          | none => none
          | some ys => some (y :: ys)
def dComp (k : Nat) (cs : List Nat) (it : Rho → Option (List D)) (g : DG) (t : Rho → Option Bool) (e : DE) : Rho → Option (List D) := fun ρ => match it ρ with
  | some ds => compGo g t e (r0 k cs ρ) ds
  | none => none
theorem sf_comp {m : Bool} {k : Nat} {cs : List Nat} {wi : TI} {g : TG} {tt : TT} {te : TE} {it : Rho → Option (List D)} {gd : DG} {td : Rho → Option Bool} {ed : DE} (hw : SemWC K m wi it) (hg : SemG K m g gd) (ht : SemT K tt td) (he : SemI K te ed) :
    SemF K (tComp wi g tt te (s0 k cs)) (dComp k cs it gd td ed) := fun {B Z os ρ σ H Q ds} f q kk => by
  unfold dComp at q
  split at q
  · rename_i xs e0
    refine hw f e0 fun J H1 s1 W Dl hD => ?_
    have f1 := f.grow s1
    have sD : ∀ {H2 : Hp} {ys : List V}, Same H1 H2 → Same H1 (upd H2 Dl (.lst ys)) := fun {H2 ys} s a o e => by
      rw [upd_ne (ne_of_none e hD)]; exact s _ _ e
    refine ⟨fun i m ys H2 => m = xs.length - i ∧ i ≤ xs.length ∧ Same H1 H2 ∧ H2 Dl = some (.lst ys) ∧ ys.length ≤ i ∧ ∃ done rest, IsL K H2 (fun a => a = Dl ∨ tot Z os a) ys done ∧ compGo gd td ed (r0 k cs ρ) (xs.drop i) = some rest ∧ done ++ rest = ds,
      ⟨_, rfl, Nat.zero_le _, sD (Same.refl _), upd_same, Nat.le_refl _, [], ds, .nil, q, rfl⟩, ?_⟩
    rintro i mm ys H2 ⟨rfl, hi, s2, eD, hly, done, rest, il, q2, ed2⟩
    have kp12 : Kp (tot Z os) H1 (fun a => a = Dl ∨ tot Z os a) H2 := fun a u e z => ⟨s2 _ _ e, fun w => w.elim (ne_of_none e hD) z⟩
    by_cases hlt : i < xs.length
    · have ex : xs[i]? = some xs[i] := List.getElem?_eq_getElem hlt
      have ef := blockFr f1 hD s2 eD k cs
      obtain ⟨go, yl⟩ := W.go i xs[i] H2 _ kp12 s2 (fun a z => ef.zin a z) ex
      refine .inr ⟨go, fun x H3 hy => ?_⟩
      obtain ⟨s3, er⟩ := yl x H3 hy
      have eD3 := s3 _ _ eD
      have s13 := s2.trans s3
      have ef3 := blockFr f1 hD s13 eD3 k cs
      rw [List.drop_eq_getElem_cons hlt] at q2
      unfold compGo at q2
      have er' : ER K m H1 H3 (tot (fun a => a = Dl ∨ tot Z os a) fun _ => []) x xs[i] := by
        cases m with
        | false => exact er
        | true => exact Is.kp (Kp.less fun a z => z.elim id fun ⟨_, w⟩ => by cases w) er
      split at q2
      · cases q2
      · rename_i ρ1 e1
        refine hg ef3 er' e1 fun os1 σ1 fr1 k1 => ?_
        split at q2
        · cases q2
        · rename_i e2
          refine ht fr1 e2 fun H4 s4 => iteF ⟨_, by omega, rfl, hlt, s13.trans s4, s4 _ _ eD3, by omega, done, rest, (il.same s3).same s4, q2, ed2⟩
        · rename_i e2
          refine ht fr1 e2 fun H4 s4 => iteT ?_
          split at q2
          · cases q2
          · rename_i y e3
            split at q2
            · cases q2
            · rename_i rs e4
              cases q2
              refine he (fr1.grow s4) e3 fun v H5 s5 i5 => ?_
              have s35 := s4.trans s5
              have eD5 := s35 _ _ eD3
              have hl := W.len
              have kp5 : ∀ (zs : List V), Kp (fun a => a = Dl ∨ tot Z os a) H5 (fun a => a = Dl ∨ tot Z os a) (upd H5 Dl (.lst zs)) := fun zs a u e z => ⟨by rw [upd_ne (fun w => z (.inl w))]; exact e, z⟩
              have i5' : Is K H5 (fun a => a = Dl ∨ tot Z os a) v y := i5.kp (Kp.less fun a z => .inl z)
              refine ⟨eD5, by omega, _, by omega, rfl, hlt, sD (s13.trans s35), upd_same, by rw [List.length_append, List.length_singleton]; omega, done ++ [y], rs, ?_, e4, by rw [List.append_assoc]; exact ed2⟩
              exact ((il.same s3).same s35 |>.kp (kp5 _)).append (.one (i5'.kp (kp5 _)))
    · have e : i = xs.length := by omega
      subst e
      rw [List.drop_length] at q2
      cases q2
      rw [List.append_nil] at ed2
      subst ed2
      have hl := W.len
      exact .inl ⟨W.stop _ H2 _ kp12 s2 rfl, eD, kk Dl ys H2 (s1.trans s2) (Same.free s1 hD) eD (by omega) il⟩
  · cases q

/-! calls -/
/-- what a def hands back: a value; a new list; a new list of new lists -/
inductive Fm where
  | v | l | m | x (E : XK) (C : Addr)
def RtOk (fr : Fm) (K : PySem.W.Frag) (B H : Hp) (Z : Addr → Prop) (v : V) (d : D) : Prop := match fr with
  | .v => Is K H Z v d
  | .l => ∃ p vs ds, v = .ref p ∧ d = .lst ds ∧ B p = none ∧ H p = some (.lst vs) ∧ vs.length ≤ sizeLine ∧ IsL K H (fun a => a = p ∨ Z a) vs ds
  | .m => ∃ p ps rows, v = .ref p ∧ d = .lst (rows.map D.lst) ∧ B p = none ∧ (∀ a ∈ ps, B a = none) ∧ (p :: ps).Nodup ∧ H p = some (.lst (ps.map V.ref)) ∧ ps.length ≤ sizeLine ∧ Paired (fun q ds => ∃ vs, H q = some (.lst vs) ∧ vs.length ≤ sizeLine ∧ IsL K H (fun a => (a = p ∨ a ∈ ps) ∨ Z a) vs ds) ps rows
  | .x _ _ => Is K H Z v d
theorem rows_isZ {H : Hp} {Z T : Addr → Prop} (hT : ∀ a, Z a → T a) : ∀ {ps : List Addr} {rows : List (List D)}, (∀ p ∈ ps, ¬ Z p) → Paired (fun p ds => ∃ vs, H p = some (.lst vs) ∧ vs.length ≤ sizeLine ∧ IsL K H T vs ds) ps rows → IsL K H Z (ps.map V.ref) (rows.map D.lst)
  | _, _, _, .nil => .nil
  | _, _, hz, .cons ⟨vs, h, hl, r⟩ t => .cons (.lst (hz _ List.mem_cons_self) (.inl h) hl (r.kp (Kp.less hT))) (rows_isZ hT (fun p hp => hz p (List.mem_cons_of_mem _ hp)) t)
theorem RtOk.is {fr : Fm} {B H : Hp} {Z : Addr → Prop} {v : V} {d : D} (hz : ∀ a, Z a → ∃ o, B a = some o) (h : RtOk fr K B H Z v d) : Is K H Z v d := by
  have nz : ∀ {p : Addr}, B p = none → ¬ Z p := fun {p} e z => by obtain ⟨o, q⟩ := hz p z; rw [e] at q; cases q
  cases fr with
  | v => exact h
  | x E C => exact h
  | l =>
    obtain ⟨p, vs, ds, rfl, rfl, hb, hh, hl, r⟩ := h
    exact .lst (nz hb) (.inl hh) hl (r.kp (Kp.less fun a z => .inr z))
  | m =>
    obtain ⟨p, ps, rows, rfl, rfl, hb, hbs, _, hh, hl, r⟩ := h
    exact .lst (nz hb) (.inl hh) (by rw [List.length_map]; exact hl) (rows_isZ (fun a z => .inr z) (fun q hq => nz (hbs q hq)) r)
def spD (fr : Fm) (K : PySem.W.Frag) (ms : List Bool) (F : List D → Option D) : Sp := fun vs H Q _ => ∃ (Z : Addr → Prop) (ds : List D) (d : D), (∀ a, Z a → ∃ o, H a = some o) ∧ Args K H Z ms vs ds ∧ F ds = some d ∧ ∀ v H', Same H H' → RtOk fr K H H' Z v d → Q v H'
def dCall (F : List D → Option D) (es : Rho → Option (List D)) : DE := fun ρ => match es ρ with
  | some ds => F ds
  | none => none
theorem si_call {fr : Fm} {ms : List Bool} {F : List D → Option D} {t : TA} {es : Rho → Option (List D)} {E : XK} (ha : SemA K ms t es) : SemI K (tCall (spD fr K ms F) [] E t) (dCall F es) := fun {B Z os ρ σ H Q d} f q k => by
  unfold dCall at q
  split at q
  · rename_i ds e
    refine ha f e fun vs H1 s1 a => ?_
    show spD fr K ms F (vs ++ []) H1 Q E
    rw [List.append_nil]
    exact ⟨tot Z os, ds, d, (f.grow s1).tin, a, q, fun v H2 s2 i => k v H2 (s1.trans s2) (i.is (f.grow s1).tin)⟩
  · cases q
end
end VL

set_option Elab.async false
set_option linter.all false
set_option maxRecDepth 100000
namespace L2
open PySem PySem.Spec PyProof.Rows
section
variable {X : Cx}
end
end L2
namespace VL
open PySem L2
open Classical
noncomputable section
variable {K : PySem.W.Frag}
inductive Res where
  | nx (ρ : Rho) | rt (d : D) | bk (ρ : Rho) | ct (ρ : Rho) | no
variable {fr : Fm}
abbrev DS := Rho → Res
def Post (fr : Fm) (K : PySem.W.Frag) (B : Hp) (Z : Addr → Prop) (os : Own) (H : Hp) (E : Ends) : Res → Prop
  | .nx ρ' => ∀ os' σ' H', Fr K B Z os' ρ' σ' H' → Kp (tot Z os) H (tot Z os') H' → E.nx σ' H'
  | .bk ρ' => ∀ os' σ' H', Fr K B Z os' ρ' σ' H' → Kp (tot Z os) H (tot Z os') H' → E.bk σ' H'
  | .ct ρ' => ∀ os' σ' H', Fr K B Z os' ρ' σ' H' → Kp (tot Z os) H (tot Z os') H' → E.ct σ' H'
  | .rt d => match fr with
    | .x E0 C => ∀ H', Same B H' → E0 (.ref C) none H'
    | fr => ∀ v H', Same B H' → RtOk fr K B H' Z v d → E.rt v H'
  | .no => False
def SemS (fr : Fm) (K : PySem.W.Frag) (t : TS) (s : DS) : Prop := ∀ {B : Hp} {Z : Addr → Prop} {os : Own} {ρ : Rho} {σ : L2.St} {H : Hp} {E : Ends}, Fr K B Z os ρ σ H → Post fr K B Z os H E (s ρ) → t E σ H
theorem Post.kp {B : Hp} {Z : Addr → Prop} {os os1 : Own} {H H1 : Hp} {E : Ends} {r : Res} (k : Kp (tot Z os) H (tot Z os1) H1) (p : Post fr K B Z os H E r) : Post fr K B Z os1 H1 E r := by
  cases r with
  | nx ρ' => exact fun os' σ' H' f k' => p os' σ' H' f (k.trans k')
  | bk ρ' => exact fun os' σ' H' f k' => p os' σ' H' f (k.trans k')
  | ct ρ' => exact fun os' σ' H' f k' => p os' σ' H' f (k.trans k')
  | rt d => exact p
  | no => exact p
@[irreducible] def sPass : DS := fun ρ => .nx ρ
theorem ss_pass : SemS fr K tNext sPass := fun f p => by unfold sPass at p; exact p _ _ _ f Kp.refl
@[irreducible] def sNo : DS := fun _ => .no
theorem ss_never : SemS fr K tNever sNo := fun f p => by unfold sNo at p; exact p.elim
@[irreducible] def sSeq (s u : DS) : DS := fun ρ => match s ρ with
  | .nx ρ' => u ρ'
  | r => r
theorem ss_seq {t u : TS} {s w : DS} (h1 : SemS fr K t s) (h2 : SemS fr K u w) : SemS fr K (tSeq t u) (sSeq s w) := fun {B Z os ρ σ H E} f p => by
  refine h1 f ?_
  unfold sSeq at p
  cases e : s ρ with
  | nx ρ' => rw [e] at p; exact fun os' σ' H' f' k => h2 f' (p.kp k)
  | bk ρ' => rw [e] at p; exact p
  | ct ρ' => rw [e] at p; exact p
  | rt d => rw [e] at p; exact p
  | no => rw [e] at p; exact p
@[irreducible] def sRet (a : DE) : DS := fun ρ => match a ρ with
  | some d => .rt d
  | none => .no
theorem ss_ret {ta : TE} {a : DE} (h : SemI K ta a) : SemS .v K (tRet ta) (sRet a) := fun {B Z os ρ σ H E} f p => by
  unfold sRet at p
  cases e : a ρ with
  | none => rw [e] at p; exact p.elim
  | some d => rw [e] at p; exact h f e fun v H1 s1 i1 => p v H1 (f.keep.trans s1) (i1.kp (Kp.less fun a z => .inl z))
@[irreducible] def sIf (c : Rho → Option Bool) (s u : DS) : DS := fun ρ => match c ρ with
  | some true => s ρ
  | some false => u ρ
  | none => .no
theorem ss_if {tc : TT} {t u : TS} {c : Rho → Option Bool} {s w : DS} (hc : SemT K tc c) (h1 : SemS fr K t s) (h2 : SemS fr K u w) : SemS fr K (tIfS tc t u) (sIf c s w) := fun {B Z os ρ σ H E} f p => by
  unfold sIf at p
  split at p
  · rename_i e
    exact hc f e fun H1 s1 => iteT (h1 (f.grow s1) (p.kp (Kp.same s1)))
  · rename_i e
    exact hc f e fun H1 s1 => iteF (h2 (f.grow s1) (p.kp (Kp.same s1)))
  · exact p.elim
/-! stores -/
@[irreducible] def sSet (i : Nat) (a : DE) : DS := fun ρ => match a ρ with
  | some d => .nx (ρ.set i (.pu d))
  | none => .no
theorem ss_set {i : Nat} {ta : TE} {a : DE} (h : SemI K ta a) : SemS fr K (tAsg ta (gName i)) (sSet i a) := fun {B Z os ρ σ H E} f p => by
  unfold sSet at p
  cases e : a ρ with
  | none => rw [e] at p; exact p.elim
  | some d =>
    rw [e] at p
    refine h f e fun v H1 s1 i1 => ?_
    obtain ⟨os', f', k⟩ := (f.grow s1).putm (m := true) i i1
    exact p os' _ _ f' ((Kp.same s1).trans k)
/-- the name owns a new list -/
@[irreducible] def sSetO (i : Nat) (a : Rho → Option (List D)) : DS := fun ρ => match a ρ with
  | some ds => if i < ρ.length then .nx (ρ.set i (.ol ds)) else .no
  | none => .no
theorem ss_setO {i : Nat} {ta : TE} {a : Rho → Option (List D)} (h : SemF K ta a) : SemS fr K (tAsg ta (gName i)) (sSetO i a) := fun {B Z os ρ σ H E} f p => by
  unfold sSetO at p
  split at p
  · rename_i ds e
    by_cases hi : i < ρ.length
    · rw [if_pos hi] at p
      refine h f e fun x vs H1 s1 hx hx1 hl i1 => ?_
      have st := f.step (H' := H1) (i := i) hi (o := [x]) (s := .ol ds) (v := some (.ref x)) (fun a u e _ => s1 _ _ e) (fun a ha => let ⟨xs, e⟩ := (f.sl i).dom ha; ⟨_, s1 _ _ e⟩) (by simp) (fun a ha => by rw [List.mem_singleton.mp ha]; exact .inr hx)
        ⟨x, vs, rfl, rfl, hx1, hl, i1.kp (Kp.less fun a z => ?_)⟩
      · exact p _ _ _ st.1 st.2
      · rcases z with z | ⟨j, z⟩
        · exact .inr (.inl z)
        · by_cases hj : j = i
          · subst hj; rw [putO_same] at z; exact .inl (List.mem_singleton.mp z)
          · rw [putO_ne hj] at z; exact .inr (.inr ⟨j, z⟩)
    · rw [if_neg hi] at p; exact p.elim
  · exact p.elim
/-- what is owned is let go: it is a value from now on -/
def frz (i : Nat) (ρ : Rho) : Rho := match ρ.getD i .un with
  | .ol ds => ρ.set i (.pu (.lst ds))
  | .om rows => ρ.set i (.pu (.lst (rows.map D.lst)))
  | _ => ρ
theorem set_self {σ : L2.St} {i : Nat} {v : V} (h : (σ[i]?).join = some v) : σ.set i (some v) = σ := by
  have e := join_some h
  refine List.ext_getElem? fun j => ?_
  by_cases hj : i = j
  · subst hj
    rw [List.getElem?_set_self (List.getElem?_eq_some_iff.mp e).1, e]
  · rw [List.getElem?_set_ne hj]
theorem getD_lt {ρ : Rho} {i : Nat} {s : Sl} (h : ρ.getD i .un = s) (hs : s ≠ .un) : i < ρ.length := by
  by_cases hi : i < ρ.length
  · exact hi
  · rw [List.getD_eq_getElem?_getD, List.getElem?_eq_none (by omega)] at h
    exact absurd h.symm hs
theorem Fr.freeze {B H : Hp} {Z : Addr → Prop} {os : Own} {ρ : Rho} {σ : L2.St} (f : Fr K B Z os ρ σ H) (i : Nat) : ∃ os', Fr K B Z os' (frz i ρ) σ H ∧ Kp (tot Z os) H (tot Z os') H := by
  unfold frz
  have less : ∀ a, tot Z (putO os i []) a → tot Z os a := by
    rintro a (z | ⟨j, z⟩)
    · exact .inl z
    · by_cases hj : j = i
      · subst hj; rw [putO_same] at z; cases z
      · rw [putO_ne hj] at z; exact .inr ⟨j, z⟩
  cases e : ρ.getD i .un with
  | ol ds =>
    have s := f.sl i
    rw [e] at s
    obtain ⟨a, vs, eo, hu, hH, hl, i1⟩ := s
    have hi := getD_lt e (by intro z; cases z)
    have st := f.step (H' := H) (i := i) hi (o := []) (s := .pu (.lst ds)) (v := some (.ref a)) (fun a u e _ => e) (fun a ha => let ⟨xs, e⟩ := (f.sl i).dom ha; ⟨_, e⟩) List.nodup_nil (fun a h => by cases h)
      ⟨rfl, _, rfl, .lst (fun z => ?_) (.inl hH) hl (i1.kp (Kp.less less))⟩
    · rw [set_self hu] at st
      exact ⟨_, st⟩
    · rcases z with z | ⟨j, z⟩
      · exact (f.new i a (by rw [eo]; exact List.mem_singleton.mpr rfl)).2 z
      · by_cases hj : j = i
        · subst hj; rw [putO_same] at z; cases z
        · rw [putO_ne hj] at z; exact hj (f.dj j i a z (by rw [eo]; exact List.mem_singleton.mpr rfl))
  | om rows =>
    have s := f.sl i
    rw [e] at s
    obtain ⟨a, ps, eo, hu, hH, hl, i1⟩ := s
    have hi := getD_lt e (by intro z; cases z)
    have out : ∀ b, b ∈ os i → ¬ tot Z (putO os i []) b := by
      rintro b hb (z | ⟨j, z⟩)
      · exact (f.new i b hb).2 z
      · by_cases hj : j = i
        · subst hj; rw [putO_same] at z; cases z
        · rw [putO_ne hj] at z; exact hj (f.dj j i b z hb)
    have rowsI : ∀ {ps : List Addr} {rows : List (List D)}, (∀ p ∈ ps, p ∈ os i) → Paired (fun p ds => ∃ vs, H p = some (.lst vs) ∧ vs.length ≤ sizeLine ∧ IsL K H (tot Z os) vs ds) ps rows → IsL K H (tot Z (putO os i [])) (ps.map V.ref) (rows.map D.lst) := by
      intro ps rows hp r
      induction r with
      | nil => exact .nil
      | cons h _ ih =>
        obtain ⟨vs, q, hv, j⟩ := h
        exact .cons (.lst (out _ (hp _ List.mem_cons_self)) (.inl q) hv (j.kp (Kp.less less))) (ih fun p h => hp p (List.mem_cons_of_mem _ h))
    have st := f.step (H' := H) (i := i) hi (o := []) (s := .pu (.lst (rows.map D.lst))) (v := some (.ref a)) (fun a u e _ => e) (fun a ha => let ⟨xs, e⟩ := (f.sl i).dom ha; ⟨_, e⟩) List.nodup_nil (fun a h => by cases h)
      ⟨rfl, _, rfl, .lst (out a (by rw [eo]; exact List.mem_cons_self)) (.inl hH) (by rw [List.length_map]; exact hl) (rowsI (fun p hp => by rw [eo]; exact List.mem_cons_of_mem _ hp) i1)⟩
    rw [set_self hu] at st
    exact ⟨_, st⟩
  | un => exact ⟨os, f, Kp.refl⟩
  | pu d => exact ⟨os, f, Kp.refl⟩
  | bo d => exact ⟨os, f, Kp.refl⟩
@[irreducible] def sFrz (i : Nat) (s : DS) : DS := fun ρ => s (frz i ρ)
theorem ss_frz {t : TS} {s : DS} (i : Nat) (h : SemS fr K t s) : SemS fr K t (sFrz i s) := fun {B Z os ρ σ H E} f p => by
  obtain ⟨os', f', k⟩ := f.freeze i
  unfold sFrz at p
  exact h f' (Post.kp k p)
/-- the owned list is changed -/
theorem Fr.mutO {B H : Hp} {Z : Addr → Prop} {os : Own} {ρ : Rho} {σ : L2.St} (f : Fr K B Z os ρ σ H) {i : Nat} {a : Addr} {ds ds' : List D} {vs' : List V} (e : ρ.getD i .un = .ol ds) (hu : (σ[i]?).join = some (.ref a)) (hl : vs'.length ≤ sizeLine) (h : IsL K H (tot Z os) vs' ds') :
    ∃ os', Fr K B Z os' (ρ.set i (.ol ds')) σ (upd H a (.lst vs')) ∧ Kp (tot Z os) H (tot Z os') (upd H a (.lst vs')) := by
  have s := f.sl i
  rw [e] at s
  obtain ⟨b, vs, eo, hu', hH, _, _⟩ := s
  rw [hu] at hu'
  cases hu'
  have hi := getD_lt e (by intro z; cases z)
  have ha : a ∈ os i := by rw [eo]; exact List.mem_singleton.mpr rfl
  have st := f.step (H' := upd H a (.lst vs')) (i := i) hi (o := [a]) (s := .ol ds') (v := some (.ref a)) (fun b u e n => by rw [upd_ne (fun z => n (by rw [z]; exact ha))]; exact e) (fun b hb => ?_) (by simp) (fun b hb => by rw [List.mem_singleton.mp hb]; exact .inl ha)
    ⟨a, vs', rfl, rfl, upd_same, hl, h.kp fun b u e z => ⟨?_, fun q => z ?_⟩⟩
  · rw [set_self hu] at st
    exact ⟨_, st⟩
  · rw [eo] at hb; rw [List.mem_singleton.mp hb]; exact ⟨_, upd_same⟩
  · rw [upd_ne (fun w => z (.inr ⟨i, by rw [w]; exact ha⟩))]; exact e
  · rcases q with q | ⟨j, q⟩
    · exact .inl q
    · by_cases hj : j = i
      · subst hj; rw [putO_same] at q; exact .inr ⟨j, by rw [List.mem_singleton.mp q]; exact ha⟩
      · rw [putO_ne hj] at q; exact .inr ⟨j, q⟩
theorem ol_of {B H : Hp} {Z : Addr → Prop} {os : Own} {ρ : Rho} {σ : L2.St} (f : Fr K B Z os ρ σ H) {i : Nat} {ds : List D} (e : ρ.getD i .un = .ol ds) : ∃ a vs, (σ[i]?).join = some (.ref a) ∧ H a = some (.lst vs) ∧ vs.length ≤ sizeLine ∧ IsL K H (tot Z os) vs ds := by
  have s := f.sl i
  rw [e] at s
  obtain ⟨b, vs, eo, hu', hH, hl, r⟩ := s
  exact ⟨b, vs, hu', hH, hl, r⟩
@[irreducible] def sIns (i : Nat) (a b : DE) : DS := fun ρ => match ρ.getD i .un with
  | .ol ds => (match a ρ with
    | some (.int n) => (match b ρ with
      | some d => if 0 ≤ n ∧ n ≤ ds.length ∧ ds.length < sizeLine then .nx (ρ.set i (.ol (ds.take n.toNat ++ d :: ds.drop n.toNat))) else .no
      | none => .no)
    | _ => .no)
  | _ => .no
theorem ss_ins {i : Nat} {ta tb : TE} {a b : DE} (ha : SemB K ta a) (hb : SemI K tb b) : SemS fr K (tDrop (tBM K "list" rInsert (tVar i) (tCons ta (tCons tb tNil)))) (sIns i a b) := fun {B Z os ρ σ H E} f p => by
  unfold sIns at p
  split at p
  · rename_i ds e
    split at p
    · rename_i n e2
      split at p
      · rename_i d e3
        by_cases hz : 0 ≤ n ∧ n ≤ ds.length ∧ ds.length < sizeLine
        · rw [if_pos hz] at p
          obtain ⟨x, vs, hu, hH, hl, r⟩ := ol_of f e
          refine ⟨_, join_some hu, .inl ⟨rfl, _, SqL.of hH⟩, ha f e2 fun v H1 s1 i1 => hb (f.grow s1) e3 fun w H2 s2 i2 => ?_⟩
          have s12 := s1.trans s2
          have f1 := f.grow s12
          have r1 := r.same s12
          have hlen := r.length
          obtain ⟨os', f', k⟩ := f1.mutO (vs' := vs.take n.toNat ++ w :: vs.drop n.toNat) (ds' := ds.take n.toNat ++ d :: ds.drop n.toNat) e hu (by rw [List.length_append, List.length_cons, List.length_take, List.length_drop]; omega) ((r1.take _).append (.cons i2 (r1.drop _)))
          exact ⟨x, vs, n, w, rfl, by rw [i1.isInt], s12 _ _ hH, hz.1, by omega, by omega, p os' _ _ f' ((Kp.same s12).trans k)⟩
        · rw [if_neg hz] at p; exact p.elim
      · exact p.elim
    · exact p.elim
  · exact p.elim
@[irreducible] def sPut (i : Nat) (b a : DE) : DS := fun ρ => match ρ.getD i .un with
  | .ol ds => (match a ρ with
    | some d => (match b ρ with
      | some (.int n) => (match ixN ds.length n with
        | some j => .nx (ρ.set i (.ol (ds.set j d)))
        | none => .no)
      | _ => .no)
    | none => .no)
  | _ => .no
theorem ss_put {i : Nat} {ta tb : TE} {a b : DE} (ha : SemI K ta a) (hb : SemB K tb b) : SemS fr K (tAsg ta (gSub (tVar i) tb rSetL)) (sPut i b a) := fun {B Z os ρ σ H E} f p => by
  unfold sPut at p
  split at p
  · rename_i ds e
    split at p
    · rename_i d e2
      split at p
      · rename_i n e3
        split at p
        · rename_i j e4
          obtain ⟨x, vs, hu, hH, hl, r⟩ := ol_of f e
          refine ha f e2 fun v H1 s1 i1 => ⟨_, join_some hu, hb (f.grow s1) e3 fun w H2 s2 i2 => ?_⟩
          have s12 := s1.trans s2
          have f1 := f.grow s12
          have r1 := r.same s12
          obtain ⟨os', f', k⟩ := f1.mutO (vs' := vs.set j v) (ds' := ds.set j d) e hu (by rw [List.length_set]; exact hl) (r1.set (i1.same s2) j)
          exact ⟨x, vs, n, j, rfl, i2.isInt, s12 _ _ hH, by rw [r.length]; exact e4, p os' _ _ f' ((Kp.same s12).trans k)⟩
        · exact p.elim
      · exact p.elim
    · exact p.elim
  · exact p.elim
/-- x op= e of ints -/
@[irreducible] def sAug (g : Int → Int → Int) (i : Nat) (a : DE) : DS := fun ρ => match dVar i ρ with
  | some (.int x) => (match a ρ with
    | some (.int y) => .nx (ρ.set i (.pu (.int (g x y))))
    | _ => .no)
  | _ => .no
theorem ss_aug {i : Nat} {g : Int → Int → Int} {ta : TE} {a : DE} (ha : SemB K ta a) : SemS fr K (tAug i ta (ipI g)) (sAug g i a) := fun {B Z os ρ σ H E} f p => by
  unfold sAug at p
  split at p
  · rename_i x e
    split at p
    · rename_i y e2
      have q := sb_var i f (Q := fun v H' => v = .int x ∧ H' = H) e
      obtain ⟨u, hu, ix⟩ : ∃ u, σ[i]? = some (some u) ∧ u = .int x := by
        have s := f.sl i
        unfold dVar at e
        cases e0 : ρ.getD i .un with
        | un => rw [e0] at e; cases e
        | pu d => rw [e0] at e s; cases e; obtain ⟨_, u, hu, i1⟩ := s; exact ⟨u, join_some hu, i1.isInt⟩
        | bo d => rw [e0] at e s; cases e; obtain ⟨_, u, hu, i1⟩ := s; exact ⟨u, join_some hu, i1.isInt⟩
        | ol d => rw [e0] at e; cases e
        | om d => rw [e0] at e; cases e
      refine ⟨u, hu, ha f e2 fun v H1 s1 i1 => ⟨x, y, ix, i1.isInt, ?_⟩⟩
      obtain ⟨os', f', k⟩ := (f.grow s1).putm (m := true) i (v := .int (g x y)) (d := .int (g x y)) (.int _)
      exact p os' _ _ f' ((Kp.same s1).trans k)
    · exact p.elim
  · exact p.elim
/-! loops -/
def forD (g : DG) (b : DS) : List D → DS
  | [], ρ => .nx ρ
  | d :: ds, ρ => match g d ρ with
    | none => .no
    | some ρ1 => match b ρ1 with
      | .nx ρ2 => forD g b ds ρ2
      | .ct ρ2 => forD g b ds ρ2
      | .bk ρ2 => .nx ρ2
      | .rt d => .rt d
      | .no => .no
@[irreducible] def sFor (it : Rho → Option (List D)) (g : DG) (b : DS) : DS := fun ρ => match it ρ with
  | some ds => forD g b ds ρ
  | none => .no
theorem ss_for {m : Bool} {wi : TI} {t : TG} {tb : TS} {it : Rho → Option (List D)} {g : DG} {b : DS} (hw : SemW K m wi it) (hg : SemG K m t g) (hb : SemS fr K tb b) : SemS fr K (tFor wi t tb) (sFor it g b) := fun {B Z os ρ σ H E} f p => by
  unfold sFor at p
  split at p
  · rename_i ds e0
    refine hw f e0 fun J H1 s1 W => ?_
    refine ⟨fun i m σ' H' => ∃ os' ρ', m = ds.length - i ∧ i ≤ ds.length ∧ Fr K B Z os' ρ' σ' H' ∧ Kp (tot Z os) H1 (tot Z os') H' ∧ Post fr K B Z os H1 E (forD g b (ds.drop i) ρ'), ⟨_, os, ρ, rfl, Nat.zero_le _, f.grow s1, Kp.refl, Post.kp (Kp.same s1) p⟩, ?_⟩
    rintro i mm σ2 H2 ⟨os2, ρ2, rfl, hi, f2, k2, p2⟩
    by_cases hlt : i < ds.length
    · have ex : ds[i]? = some ds[i] := List.getElem?_eq_getElem hlt
      obtain ⟨go, yl⟩ := W.go i ds[i] H2 _ k2 f2.keep f2.tin ex
      rw [List.drop_eq_getElem_cons hlt] at p2
      refine .inr ⟨go, fun σ' H' => ∃ os' ρ', Fr K B Z os' ρ' σ' H' ∧ Kp (tot Z os) H1 (tot Z os') H' ∧ Post fr K B Z os H1 E (forD g b (ds.drop (i + 1)) ρ'), fun σ' H' ⟨os', ρ', h1, h2, h3⟩ => ⟨_, by omega, os', ρ', rfl, hlt, h1, h2, h3⟩, fun x H3 hy => ?_⟩
      obtain ⟨s3, er⟩ := yl x H3 hy
      unfold forD at p2
      split at p2
      · exact p2.elim
      · rename_i ρ1 e1
        have er' : ER K m B H3 (tot Z os2) x ds[i] := er
        refine hg (f2.grow s3) er' e1 fun os3 σ3 f3 k3 => hb f3 ?_
        have k13 : Kp (tot Z os) H1 (tot Z os3) H3 := (k2.trans (Kp.same s3)).trans k3
        split at p2
        · rename_i ρ4 e4
          rw [e4]
          exact fun os' σ' H' f' k' => ⟨os', _, f', k13.trans k', p2⟩
        · rename_i ρ4 e4
          rw [e4]
          exact fun os' σ' H' f' k' => ⟨os', _, f', k13.trans k', p2⟩
        · rename_i ρ4 e4
          rw [e4]
          exact fun os' σ' H' f' k' => p2 os' σ' H' f' (k13.trans k')
        · rename_i d e4
          rw [e4]
          exact p2
        · exact p2.elim
    · have e : i = ds.length := by omega
      subst e
      rw [List.drop_length] at p2
      exact .inl ⟨W.stop _ H2 _ k2 f2.keep rfl, p2 os2 σ2 H2 f2 k2⟩
  · exact p.elim
def whN (c : Rho → Option Bool) (b : DS) : Nat → DS
  | 0, ρ => match c ρ with
    | some false => .nx ρ
    | _ => .no
  | n + 1, ρ => match c ρ with
    | some false => .nx ρ
    | some true => (match b ρ with
      | .nx ρ' => whN c b n ρ'
      | .ct ρ' => whN c b n ρ'
      | .bk ρ' => .nx ρ'
      | .rt d => .rt d
      | .no => .no)
    | none => .no
@[irreducible] def sWhile (c : Rho → Option Bool) (b : DS) : DS := fun ρ => if h : ∃ n, whN c b n ρ ≠ .no then whN c b h.choose ρ else .no
theorem whN_mono {c : Rho → Option Bool} {b : DS} : ∀ {n : Nat} {ρ : Rho}, whN c b n ρ ≠ .no → whN c b (n + 1) ρ = whN c b n ρ
  | 0, ρ, h => by
    unfold whN at h ⊢
    split at h
    · rename_i e; rw [e]
    · exact absurd rfl h
  | n + 1, ρ, h => by
    have e1 : whN c b (n + 1 + 1) ρ = (match c ρ with | some false => .nx ρ | some true => (match b ρ with | .nx ρ' => whN c b (n + 1) ρ' | .ct ρ' => whN c b (n + 1) ρ' | .bk ρ' => .nx ρ' | .rt d => .rt d | .no => .no) | none => .no) := rfl
    have e2 : whN c b (n + 1) ρ = (match c ρ with | some false => .nx ρ | some true => (match b ρ with | .nx ρ' => whN c b n ρ' | .ct ρ' => whN c b n ρ' | .bk ρ' => .nx ρ' | .rt d => .rt d | .no => .no) | none => .no) := rfl
    rw [e1]
    rw [e2] at h ⊢
    cases e3 : c ρ with
    | none => rfl
    | some x =>
      rw [e3] at h
      cases x with
      | false => rfl
      | true =>
        cases e4 : b ρ with
        | nx ρ' => rw [e4] at h; exact whN_mono h
        | ct ρ' => rw [e4] at h; exact whN_mono h
        | _ => rfl
theorem whN_le {c : Rho → Option Bool} {b : DS} {n k : Nat} {ρ : Rho} (h : whN c b n ρ ≠ .no) : whN c b (n + k) ρ = whN c b n ρ := by
  induction k with
  | zero => rfl
  | succ k ih => rw [← Nat.add_assoc, whN_mono (by rw [ih]; exact h), ih]
theorem sWhile_of {c : Rho → Option Bool} {b : DS} {n : Nat} {ρ : Rho} {r : Res} (h : whN c b n ρ = r) (hr : r ≠ .no) : sWhile c b ρ = r := by
  have ex : ∃ n, whN c b n ρ ≠ .no := ⟨n, by rw [h]; exact hr⟩
  unfold sWhile
  rw [dif_pos ex]
  have q := ex.choose_spec
  generalize ex.choose = m at q
  have e1 := whN_le (k := n) q
  have e2 := whN_le (k := m) (show whN c b n ρ ≠ .no by rw [h]; exact hr)
  rw [Nat.add_comm] at e2
  rw [← e1, e2, h]
theorem ss_while {tc : TT} {tb : TS} {c : Rho → Option Bool} {b : DS} (hc : SemT K tc c) (hb : SemS fr K tb b) : SemS fr K (tWhile tc tb) (sWhile c b) := fun {B Z os ρ σ H E} f p => by
  unfold sWhile at p
  by_cases ex : ∃ n, whN c b n ρ ≠ .no
  · rw [dif_pos ex] at p
    generalize ex.choose = n0 at p
    refine ⟨fun m σ' H' => ∃ os' ρ', Fr K B Z os' ρ' σ' H' ∧ Kp (tot Z os) H (tot Z os') H' ∧ Post fr K B Z os H E (whN c b m ρ'), ⟨n0, os, ρ, f, Kp.refl, p⟩, ?_⟩
    rintro m σ2 H2 ⟨os2, ρ2, f2, k2, p2⟩
    cases m with
    | zero =>
      unfold whN at p2
      split at p2
      · rename_i e
        exact hc f2 e fun H3 s3 => iteF (p2 os2 σ2 H3 (f2.grow s3) (k2.trans (Kp.same s3)))
      · exact p2.elim
    | succ m =>
      have p2 : Post fr K B Z os H E (match c ρ2 with | some false => .nx ρ2 | some true => (match b ρ2 with | .nx ρ' => whN c b m ρ' | .ct ρ' => whN c b m ρ' | .bk ρ' => .nx ρ' | .rt d => .rt d | .no => .no) | none => .no) := p2
      cases e : c ρ2 with
      | none => rw [e] at p2; exact p2.elim
      | some x =>
        rw [e] at p2
        cases x with
        | false => exact hc f2 e fun H3 s3 => iteF (p2 os2 σ2 H3 (f2.grow s3) (k2.trans (Kp.same s3)))
        | true =>
          refine hc f2 e fun H3 s3 => iteT ⟨fun σ' H' => ∃ os' ρ', Fr K B Z os' ρ' σ' H' ∧ Kp (tot Z os) H (tot Z os') H' ∧ Post fr K B Z os H E (whN c b m ρ'), fun σ' H' h => ⟨m, Nat.lt_succ_self _, h⟩, hb (f2.grow s3) ?_⟩
          have k3 := k2.trans (Kp.same s3)
          cases e4 : b ρ2 with
          | nx ρ' => rw [e4] at p2; exact fun os' σ' H' f' k' => ⟨os', _, f', k3.trans k', p2⟩
          | ct ρ' => rw [e4] at p2; exact fun os' σ' H' f' k' => ⟨os', _, f', k3.trans k', p2⟩
          | bk ρ' => rw [e4] at p2; exact fun os' σ' H' f' k' => p2 os' σ' H' f' (k3.trans k')
          | rt d => rw [e4] at p2; exact p2
          | no => rw [e4] at p2; exact p2.elim
  · rw [dif_neg ex] at p; exact p.elim
/-! a def -/
def stD (n : Nat) (ms : List Bool) (ds : List D) : Rho := List.zipWith slm ms ds ++ List.replicate (n - ds.length) .un
@[irreducible] def runD (n : Nat) (ms : List Bool) (b : DS) (ds : List D) : Option D := match b (stD n ms ds) with
  | .rt d => some d
  | .nx _ => some .non
  | _ => none
/-- of a def that hands back what is new -/
@[irreducible] def runF (n : Nat) (ms : List Bool) (b : DS) (ds : List D) : Option D := match b (stD n ms ds) with
  | .rt d => some d
  | _ => none
theorem startFr {H : Hp} {Z : Addr → Prop} {N : List Str} {ms : List Bool} {vs : List V} {ds : List D} (hz : ∀ a, Z a → ∃ o, H a = some o) (h : Args K H Z ms vs ds) : Fr K H Z (fun _ => []) (stD N.length ms ds) (L2.start N vs) H where
  keep := Same.refl _
  zin := hz
  len := by
    unfold stD L2.start
    have := h.len
    simp only [List.length_append, List.length_map, List.length_replicate, List.length_zipWith]
    omega
  nd := fun _ => List.nodup_nil
  dj := fun _ _ _ h => by cases h
  new := fun _ _ h => by cases h
  sl := fun j => by
    have hl := h.len
    have key : ∀ {ms : List Bool} {vs : List V} {ds : List D} (j : Nat), Args K H Z ms vs ds → j < ms.length → SlOk K H H (tot Z fun _ => []) [] (((List.zipWith slm ms ds)[j]?).getD .un) ((vs.map some)[j]?.join) := by
      intro ms vs ds j h
      induction h generalizing j with
      | nil => intro hj; simp at hj
      | own i _ ih =>
        intro hj
        cases j with
        | zero => exact ⟨rfl, _, rfl, i.kp (Kp.less fun a z => z.elim id fun ⟨_, w⟩ => by cases w)⟩
        | succ j => exact ih j (by simpa using hj)
      | any i _ ih =>
        intro hj
        cases j with
        | zero => exact ⟨rfl, _, rfl, i⟩
        | succ j => exact ih j (by simpa using hj)
    unfold stD L2.start
    rw [List.getD_eq_getElem?_getD]
    by_cases hj : j < ms.length
    · rw [List.getElem?_append_left (by rw [List.length_zipWith]; omega), List.getElem?_append_left (by rw [List.length_map]; omega)]
      exact key j h hj
    · rw [List.getElem?_append_right (by rw [List.length_zipWith]; omega), List.getElem?_replicate]
      split <;> exact rfl
theorem Fun.okD {P : Program} {w : World} {mg : Str → Option Value} {base : Heap} {x qual : Str} {st : Stmt} {f : Addr} {fd : FuncData} {N ps : List Str} {k : Nat} (F : Fun K x qual st f fd) (S : FnScope N ps (defScope st)) (ms : List Bool) (hms : ms.length = ps.length) (b : DS)
    (hbody : ∀ (cdv : Value) (A : Around) (outer : List Env) (s : Shared) (H : Hp) (E : XK), Room k (A.deeper (PyProof.Rows.envOfC qual (defScope st) s.heap.objs.size f cdv)) →
      ∃ t, PSs (cxOf CX0 P w K mg base N qual (defScope st) f cdv A outer s H E).nox (defBody st) t ∧ SemS .v K t b) : FnOk P w K mg base CX0 (k + 1) f fd ps (spD .v K ms (runD N.length ms b)) := by
  refine F.ok S (fun vs H Q E h => ?_) (fun cdv A outer s H vs Q E hr h => ?_)
  · obtain ⟨Z, ds, d, hz, a, _⟩ := h
    rw [a.len.1, hms]
  · obtain ⟨Z, ds, d, hz, a, e, k⟩ := h
    obtain ⟨t, h1, h2⟩ := hbody cdv A outer s H E hr
    refine ⟨t, h1, h2 (startFr hz a) ?_⟩
    unfold runD at e
    split at e
    · rename_i d' e1
      cases e
      rw [e1]
      exact fun v H' s' i => k v H' s' i
    · rename_i ρ e1
      cases e
      rw [e1]
      exact fun os' σ' H' f' _ => k _ H' f'.keep .non
    · cases e
end
end VL

set_option Elab.async false
set_option linter.all false
set_option maxRecDepth 100000
/-! a comprehension that asks any names of its def, any targets -/
namespace L2
open PySem PySem.Spec PyProof.Rows
open VL (s0)
section
variable {X : Cx}
inductive SubL (X : Cx) : List (Str × Addr) → Prop
  | nil : SubL X []
  | cons {z : Str} {c : Addr} {r : List (Str × Addr)} : X.env.cells.lookup z = some c → SubL X r → SubL X ((z, c) :: r)
theorem SubL.sub {cl : List (Str × Addr)} (h : SubL X cl) : ∀ x c, cl.lookup x = some c → X.env.cells.lookup x = some c := by
  induction h with
  | nil => intro x c e; cases e
  | @cons z c r h _ ih =>
    intro x c' e
    rw [List.lookup_cons] at e
    cases q : x == z with
    | true => rw [q] at e; cases e; rw [eq_of_beq q]; exact h
    | false => rw [q] at e; exact ih x c' e
inductive CapL (X : Cx) (scope : Scope) (cl : List (Str × Addr)) : List Nat → List Str → Prop
  | nil : CapL X scope cl [] []
  | cons {i : Nat} {z : Str} {c : Addr} {is : List Nat} {zs : List Str} : X.N[i]? = some z → (X.env.scope.names.lookup z = some .cell ∨ X.env.scope.names.lookup z = some .free) → cl.lookup z = some c →
      ((relabel scope X.env).names.lookup z = some .cell ∨ (relabel scope X.env).names.lookup z = some .free) → CapL X scope cl is zs → CapL X scope cl (i :: is) (z :: zs)
theorem CapL.get {scope : Scope} {cl : List (Str × Addr)} {is : List Nat} {zs : List Str} (h : CapL X scope cl is zs) : ∀ (j : Nat) (z : Str), zs[j]? = some z → ∃ i c, is[j]? = some i ∧ X.N[i]? = some z ∧ (X.env.scope.names.lookup z = some .cell ∨ X.env.scope.names.lookup z = some .free) ∧ cl.lookup z = some c ∧
      ((relabel scope X.env).names.lookup z = some .cell ∨ (relabel scope X.env).names.lookup z = some .free) := by
  induction h with
  | nil => intro j z e; simp at e
  | cons h1 h2 h3 h4 _ ih =>
    intro j z e
    cases j with
    | zero => cases e; exact ⟨_, _, rfl, h1, h2, h3, h4⟩
    | succ j => exact ih j z (by simpa using e)
theorem CapL.len {scope : Scope} {cl : List (Str × Addr)} {is : List Nat} {zs : List Str} (h : CapL X scope cl is zs) : is.length = zs.length := by
  induction h with
  | nil => rfl
  | cons _ _ _ _ _ ih => simp [ih]
theorem Frees.many {scope : Scope} {cl : List (Str × Addr)} {is : List Nat} {ts zs : List Str} {k : Nat} {σ : St} (hk : ts.length = k) (hs : SubL X cl) (hc : CapL X scope cl is zs)
    (ha : ((relabel scope X.env).names.all fun y => !(y.2 == .cell || y.2 == .free) || zs.contains y.1) = true) : Frees X (ts ++ zs) scope cl σ (s0 k is σ) where
  sub := hs.sub
  vals := fun j x v e1 e2 => by
    unfold s0 at e2
    by_cases hj : j < k
    · rw [List.getElem?_append_left (by simpa using hj), List.getElem?_replicate, if_pos hj] at e2; cases e2
    · rw [List.getElem?_append_right (by simpa using hj), List.length_replicate, List.getElem?_map] at e2
      rw [List.getElem?_append_right (by omega), hk] at e1
      obtain ⟨i, c, f1, f2, f3, f4, f5⟩ := hc.get _ _ e1
      rw [f1] at e2
      have e3 : (σ[i]?).join = some v := Option.some.inj e2
      refine ⟨i, c, f2, VL.join_some e3, ?_, ?_, f4, f5⟩
      · rcases f3 with q | q
        · exact .inr (.inl q)
        · exact .inr (.inr q)
      · intro w
        have w : X.env.scope.names.lookup x = some .local := w
        rcases f3 with q | q <;> rw [q] at w <;> cases w
  has := fun x h => by
    have key : ∀ kd, (relabel scope X.env).names.lookup x = some kd → (kd == NameKind.cell || kd == NameKind.free) = true → x ∈ zs := fun kd e q => by
      have m := List.all_eq_true.mp ha _ (PySem.mem_of_lookup e)
      rw [q] at m
      have : zs.contains x = true := by simpa using m
      exact List.contains_iff_mem.mp this
    have mem : x ∈ zs := by
      rcases h with h | h
      · exact key _ h rfl
      · exact key _ h rfl
    obtain ⟨j, hj⟩ := List.getElem?_of_mem mem
    obtain ⟨i, c, _, _, _, f4, _⟩ := hc.get j x hj
    exact ⟨c, f4⟩
  len := by unfold s0; rw [List.length_append, List.length_append, List.length_replicate, List.length_map, hk, hc.len]
/-- a target that stores below k alone -/
def Low (k : Nat) (g : TG) : Prop := ∀ x σ H (Q : St → Hp → Prop), g x σ H Q → ∃ σ2 H2, Q σ2 H2 ∧ σ2.length = σ.length ∧ (∀ j, k ≤ j → σ2[j]? = σ[j]?) ∧ ∀ Q' : St → Hp → Prop, Q' σ2 H2 → g x σ H Q'
theorem low_name {k i : Nat} (h : i < k) : Low k (gName i) := fun x σ H Q q => ⟨_, _, q, List.length_set, fun j hj => by rw [List.getElem?_set_ne (by omega)], fun _ z => z⟩
theorem Low.keep {k : Nat} {g : TG} {cs : List Nat} (h : Low k g) (σ : St) : Keepg g (s0 k cs σ) := fun x H Q q => by
  obtain ⟨σ1, H1, q1, l1, k1, g1⟩ := h _ _ _ _ q
  refine g1 _ ⟨q1, l1, fun j v e => ?_⟩
  by_cases hj : j < k
  · unfold s0 at e
    rw [List.getElem?_append_left (by simpa using hj), List.getElem?_replicate, if_pos hj] at e; cases e
  · rw [k1 j (by omega)]; exact e
theorem pgb {N' : List Str} {scope : Scope} {cl : List (Str × Addr)} {i : Nat} {y : Str} {py : Pos} (nd : N'.Nodup) (hi : N'[i]? = some y) (hx : scope.names.lookup y = some .local) {C : Addr} {s3 : Shared} {H3 : Hp} {fp : List Addr} {pins : List (Addr × Obj)} :
    PG (compCx X N' scope cl C s3 H3 fp pins) (.Name y py) (gName i) := pg_name nd hi (.inl (lookup_relabel_local hx)) (.inr (lookup_relabel_local hx))
variable {tg elt iter c : Expr} {scope : Scope} {cl : List (Str × Addr)} {ts zs : List Str} {is : List Nat} {k : Nat} {g : TG} {tt : TT} {te : TE} {wi : TI} {pos : Pos}
theorem pe_cN1 (hc : X.calm = true) (hi : PI X tg iter wi) (hk : ts.length = k) (hs : SubL X cl) (hcp : CapL X scope cl is zs) (ha : ((relabel scope X.env).names.all fun y => !(y.2 == .cell || y.2 == .free) || zs.contains y.1) = true) (hl : Low k g)
    (hg : ∀ C s3 H3 fp pins, PG (compCx X (ts ++ zs) scope cl C s3 H3 fp pins) tg g) (ht : ∀ C s3 H3 fp pins, PT (compCx X (ts ++ zs) scope cl C s3 H3 fp pins) c tt) (he : ∀ C s3 H3 fp pins, PE (compCx X (ts ++ zs) scope cl C s3 H3 fp pins) elt te)
    (hclos : closureFor scope X.env = pure cl) (hcell : ∀ y ∈ scope.names, y.2 ≠ .cell) (hkind : scope.kind = .function) (hnames : ∀ y ∈ scope.names, y.2 = .local → scope.names.lookup y.1 = some .local)
    (hf : ∀ x, foldedSetIterable iter X.env x = pure x := by intro _; rfl) : PE X (.ListComp elt [⟨tg, iter, [c], 0⟩] scope pos) (tComp wi g tt te (s0 k is)) :=
  pe_compG hc hi (fun _ _ => Frees.many hk hs hcp ha) (fun σ => hl.keep σ) hg (tests1 ht) he hclos hcell hkind hnames hf
theorem pi_listK {K : PySem.W.Frag} {l : Expr} {tl : TE} (h : X.K = K) (hl : PE X l tl) : PI X tg l (iList K tl) := by subst h; exact pi_list hl
end
end L2
namespace VL
open PySem L2
/-- the law's promise -/
def sp_law (K : PySem.W.Frag) : Sp := fun vs H Q _ => ∃ (a : Addr) (ns : List Int), vs = [.ref a] ∧ SqL K H a (ns.map V.int) ∧ ns.length ≤ 63 ∧ (∀ m ∈ ns, Builtin.Int.intBits m ≤ 1048576) ∧ ∀ H', Q (.bl true) H'
theorem sp_law_of {K : PySem.W.Frag} {F : List D → Option D} (ht : ∀ ns : List Int, ns.length ≤ 63 → (∀ m ∈ ns, Builtin.Int.intBits m ≤ 1048576) → F [.scr ns] = some (.bl true)) {vs : List V} {H : Hp} {Q : VK} {E : XK} (h : sp_law K vs H Q E) : spD .v K [false] F vs H Q E := by
  obtain ⟨a, ns, rfl, hS, hl, hb, k⟩ := h
  have hz : ns.length ≤ sizeLine := Nat.le_trans hl (by decide)
  refine ⟨No, [.scr ns], .bl true, fun a z => z.elim, .any ?_ .nil, ht ns hl hb, fun v H' s i => by cases i; exact k H'⟩
  rcases hS with hS | hS
  · exact .scr (fun z => z) hS hz
  · exact .scrK hS hz
end VL

set_option Elab.async false
set_option linter.all false
set_option maxRecDepth 100000
namespace L2
open PySem PySem.Spec PyProof.Rows
section
variable {X : Cx} {K : PySem.W.Frag}
end
end L2
namespace VL
open PySem L2
open Classical
noncomputable section
section
variable {K : PySem.W.Frag} {ta tb tc : TE} {a b c : DE}
end
end
end VL

set_option Elab.async false
set_option linter.all false
set_option maxRecDepth 100000
namespace VL
open PySem L2
open Classical
noncomputable section
/-! what a text's worth comes to: N of the names behind it, R of what is handed back -/
structure Wk where
  nx : Rho → Prop
  rt : D → Prop
  bk : Rho → Prop := fun _ => False
  ct : Rho → Prop := fun _ => False
@[irreducible] def Wp (s : DS) (ρ : Rho) (W : Wk) : Prop := match s ρ with
  | .nx ρ' => W.nx ρ'
  | .rt d => W.rt d
  | .bk ρ' => W.bk ρ'
  | .ct ρ' => W.ct ρ'
  | .no => False
section
variable {s u b : DS} {ρ : Rho} {W : Wk} {i : Nat} {a e k : DE} {d : D} {c : Rho → Option Bool} {es : Rho → Option (List D)} {ds : List D} {g : DG}
theorem wp_seq (h : Wp s ρ { W with nx := fun ρ' => Wp u ρ' W }) : Wp (sSeq s u) ρ W := by
  unfold Wp sSeq at *
  cases e : s ρ <;> rw [e] at h <;> exact h
theorem wp_pass (h : W.nx ρ) : Wp sPass ρ W := by unfold Wp sPass; exact h
theorem wp_ret (h : a ρ = some d) (k : W.rt d) : Wp (sRet a) ρ W := by unfold Wp sRet; rw [h]; exact k
theorem wp_if {x : Bool} (h : c ρ = some x) (ht : x = true → Wp s ρ W) (hf : x = false → Wp u ρ W) : Wp (sIf c s u) ρ W := by
  unfold Wp sIf at *
  rw [h]
  cases x
  · exact hf rfl
  · exact ht rfl
theorem wp_ifp {p : Prop} {_ : Decidable p} (h : c ρ = some (decide p)) (ht : p → Wp s ρ W) (hf : ¬ p → Wp u ρ W) : Wp (sIf c s u) ρ W := by
  refine wp_if h (fun q => ht (of_decide_eq_true q)) fun q => hf (of_decide_eq_false q)
theorem wp_ifT (h : c ρ = some true) (ht : Wp s ρ W) : Wp (sIf c s u) ρ W := wp_if h (fun _ => ht) fun q => by cases q
theorem wp_ifF (h : c ρ = some false) (ht : Wp u ρ W) : Wp (sIf c s u) ρ W := wp_if h (fun q => by cases q) fun _ => ht
theorem wp_set (h : a ρ = some d) (k : W.nx (ρ.set i (.pu d))) : Wp (sSet i a) ρ W := by unfold Wp sSet; rw [h]; exact k
theorem wp_setO (h : es ρ = some ds) (hi : i < ρ.length) (k : W.nx (ρ.set i (.ol ds))) : Wp (sSetO i es) ρ W := by unfold Wp sSetO; rw [h]; simp only [if_pos hi]; exact k
theorem wp_frz (h : Wp s (frz i ρ) W) : Wp (sFrz i s) ρ W := by unfold Wp sFrz at *; exact h
theorem wp_ins {n : Int} (h0 : ρ.getD i .un = .ol ds) (h : a ρ = some (.int n)) (h1 : e ρ = some d) (hl : 0 ≤ n ∧ n ≤ ds.length ∧ ds.length < sizeLine) (k : W.nx (ρ.set i (.ol (ds.take n.toNat ++ d :: ds.drop n.toNat)))) : Wp (sIns i a e) ρ W := by
  unfold Wp sIns; rw [h0]; simp only [h, h1, if_pos hl]; exact k
theorem wp_put {n : Int} {j : Nat} (h0 : ρ.getD i .un = .ol ds) (h1 : a ρ = some d) (h : e ρ = some (.int n)) (hj : ixN ds.length n = some j) (k : W.nx (ρ.set i (.ol (ds.set j d)))) : Wp (sPut i e a) ρ W := by
  unfold Wp sPut; rw [h0]; simp only [h, h1, hj]; exact k
theorem wp_aug {f : Int → Int → Int} {x y : Int} (h0 : dVar i ρ = some (.int x)) (h : a ρ = some (.int y)) (k : W.nx (ρ.set i (.pu (.int (f x y))))) : Wp (sAug f i a) ρ W := by
  unfold Wp sAug; rw [h0]; simp only [h]; exact k
/-- a loop, by what holds ahead of turn j -/
theorem wp_for {it : Rho → Option (List D)} (h : it ρ = some ds) (I : Nat → Rho → Prop) (h0 : I 0 ρ)
    (hs : ∀ (j : Nat) (d : D) (ρ : Rho), ds[j]? = some d → I j ρ → ∃ ρ1, g d ρ = some ρ1 ∧ Wp b ρ1 { W with nx := I (j + 1), ct := I (j + 1), bk := W.nx })
    (he : ∀ ρ, I ds.length ρ → W.nx ρ) : Wp (sFor it g b) ρ W := by
  have key : ∀ (n j : Nat) (ρ : Rho), n = ds.length - j → j ≤ ds.length → I j ρ → Wp (fun ρ => forD g b (ds.drop j) ρ) ρ W := by
    intro n
    induction n with
    | zero =>
      intro j ρ hn hj hI
      have e : j = ds.length := by omega
      subst e
      unfold Wp
      simp only [List.drop_length, forD]
      exact he ρ hI
    | succ n ih =>
      intro j ρ hn hj hI
      have hlt : j < ds.length := by omega
      obtain ⟨ρ1, e1, w1⟩ := hs j ds[j] ρ (List.getElem?_eq_getElem hlt) hI
      unfold Wp
      dsimp only
      rw [List.drop_eq_getElem_cons hlt]
      unfold forD
      rw [e1]
      unfold Wp at w1
      dsimp only
      cases e2 : b ρ1 with
      | nx ρ2 => rw [e2] at w1; have q := ih (j + 1) ρ2 (by omega) hlt w1; unfold Wp at q; exact q
      | ct ρ2 => rw [e2] at w1; have q := ih (j + 1) ρ2 (by omega) hlt w1; unfold Wp at q; exact q
      | bk ρ2 => rw [e2] at w1; exact w1
      | rt d => rw [e2] at w1; exact w1
      | no => rw [e2] at w1; exact w1
  have := key _ 0 ρ rfl (Nat.zero_le _) h0
  unfold Wp at this
  unfold Wp sFor
  rw [h]
  exact this
/-- a while, by what holds and a measure -/
theorem wp_while (I : Nat → Rho → Prop) (n : Nat) (h0 : I n ρ) (hs : ∀ n ρ, I n ρ → ∃ x, c ρ = some x ∧ (x = true → Wp b ρ { W with nx := fun ρ' => ∃ m, m < n ∧ I m ρ', ct := fun ρ' => ∃ m, m < n ∧ I m ρ', bk := W.nx }) ∧ (x = false → W.nx ρ)) : Wp (sWhile c b) ρ W := by
  have key : ∀ n ρ, I n ρ → ∃ r, whN c b (n + 1) ρ = r ∧ r ≠ .no ∧ (match r with | .nx ρ' => W.nx ρ' | .rt d => W.rt d | .bk ρ' => W.bk ρ' | .ct ρ' => W.ct ρ' | .no => False) := by
    intro n
    induction n using Nat.strongRecOn with
    | _ n ih =>
      intro ρ hI
      obtain ⟨x, ec, ht, hf⟩ := hs n ρ hI
      have un : whN c b (n + 1) ρ = (match c ρ with | some false => Res.nx ρ | some true => (match b ρ with | .nx ρ' => whN c b n ρ' | .ct ρ' => whN c b n ρ' | .bk ρ' => .nx ρ' | .rt d => .rt d | .no => .no) | none => .no) := rfl
      rw [un, ec]
      cases x with
      | false => exact ⟨.nx ρ, rfl, (fun z => by cases z), hf rfl⟩
      | true =>
        have w := ht rfl
        unfold Wp at w
        have step : ∀ ρ', (∃ m, m < n ∧ I m ρ') → ∃ r, whN c b n ρ' = r ∧ r ≠ .no ∧ (match r with | .nx ρ' => W.nx ρ' | .rt d => W.rt d | .bk ρ' => W.bk ρ' | .ct ρ' => W.ct ρ' | .no => False) := by
          rintro ρ' ⟨m, hm, hI'⟩
          obtain ⟨r, e, hr, q⟩ := ih m hm ρ' hI'
          refine ⟨r, ?_, hr, q⟩
          obtain ⟨k, rfl⟩ : ∃ k, n = m + 1 + k := ⟨n - m - 1, by omega⟩
          rw [whN_le (by rw [e]; exact hr), e]
        cases eb : b ρ with
        | nx ρ' => rw [eb] at w; exact step ρ' w
        | ct ρ' => rw [eb] at w; exact step ρ' w
        | bk ρ' => rw [eb] at w; exact ⟨.nx ρ', rfl, (fun z => by cases z), w⟩
        | rt d => rw [eb] at w; exact ⟨.rt d, rfl, (fun z => by cases z), w⟩
        | no => rw [eb] at w; exact w.elim
  obtain ⟨r, e, hr, q⟩ := key n ρ h0
  unfold Wp
  rw [sWhile_of e hr]
  exact q
end
/-! what an expression is worth -/
section
variable {ρ : Rho} {a b c : DE} {i j k : Int} {d e : D} {es : Rho → Option (List D)} {ds : List D}
theorem ev_add (ha : a ρ = some (.int i)) (hb : b ρ = some (.int j)) : dAdd a b ρ = some (.int (i + j)) := by unfold dAdd dII; rw [ha, hb]
theorem ev_sub (ha : a ρ = some (.int i)) (hb : b ρ = some (.int j)) : dSub a b ρ = some (.int (i - j)) := by unfold dSub dII; rw [ha, hb]
theorem ev_mul (ha : a ρ = some (.int i)) (hb : b ρ = some (.int j)) (h : IntMulOk i j) : dMul a b ρ = some (.int (i * j)) := by unfold dMul dII; rw [ha, hb]; exact gC_pos h
theorem ev_fdiv (ha : a ρ = some (.int i)) (hb : b ρ = some (.int j)) (h : 0 < j ∧ j.natAbs.log2 < 9000) : dFdiv a b ρ = some (.int (i / j)) := by unfold dFdiv dII; rw [ha, hb]; exact gC_pos (C := fun _ j => 0 < j ∧ j.natAbs.log2 < 9000) h
theorem ev_mod (ha : a ρ = some (.int i)) (hb : b ρ = some (.int j)) (h : 0 < j) : dMod a b ρ = some (.int (i % j)) := by unfold dMod dII; rw [ha, hb]; exact gC_pos (C := fun _ j => 0 < j) h
theorem ev_pow (ha : a ρ = some (.int i)) (hb : b ρ = some (.int j)) (h : CPow i j) : dPow a b ρ = some (.int (i ^ j.toNat)) := by unfold dPow dII; rw [ha, hb]; exact gC_pos h
theorem ev_lt (ha : a ρ = some (.int i)) (hb : b ρ = some (.int j)) : dLt a b ρ = some (.bl (decide (i < j))) := by unfold dLt dII; rw [ha, hb]
theorem ev_le (ha : a ρ = some (.int i)) (hb : b ρ = some (.int j)) : dLe a b ρ = some (.bl (decide (i ≤ j))) := by unfold dLe dII; rw [ha, hb]
theorem ev_gt (ha : a ρ = some (.int i)) (hb : b ρ = some (.int j)) : dGt a b ρ = some (.bl (decide (j < i))) := by unfold dGt dII; rw [ha, hb]
theorem ev_ge (ha : a ρ = some (.int i)) (hb : b ρ = some (.int j)) : dGe a b ρ = some (.bl (decide (j ≤ i))) := by unfold dGe dII; rw [ha, hb]
theorem ev_neg (ha : a ρ = some (.int i)) : dNeg a ρ = some (.int (-i)) := by unfold dNeg; rw [ha]
theorem ev_chain {p q : Int → Int → Bool} (ha : a ρ = some (.int i)) (hb : b ρ = some (.int j)) (hc : c ρ = some (.int k)) : dChain p q a b c ρ = some (.bl (p i j && q j k)) := by
  unfold dChain; rw [ha, hb]; dsimp only
  cases e : p i j
  · rfl
  · rw [if_pos rfl, hc]; rfl
theorem ev_max2 (ha : a ρ = some (.int i)) (hb : b ρ = some (.int j)) : dMax2 a b ρ = some (.int (max i j)) := by
  have e : (if j > i then j else i) = max i j := by split <;> omega
  unfold dMax2 dII; rw [ha, hb, ← e]
theorem ev_min2 (ha : a ρ = some (.int i)) (hb : b ρ = some (.int j)) : dMin2 a b ρ = some (.int (min i j)) := by
  have e : (if j < i then j else i) = min i j := by split <;> omega
  unfold dMin2 dII; rw [ha, hb, ← e]
theorem ev_t {x : Bool} (ha : a ρ = some (.bl x)) : dT a ρ = some x := by unfold dT; rw [ha]
theorem ev_tru {x : Bool} (ha : a ρ = some d) (h : truD d = some x) : dTru a ρ = some x := by unfold dTru; rw [ha]; exact h
theorem ev_not {p : Rho → Option Bool} {x : Bool} (ha : p ρ = some x) : dNot p ρ = some (!x) := by unfold dNot; rw [ha]
theorem ev_and {p q : Rho → Option Bool} {x y : Bool} (ha : p ρ = some x) (hb : x = true → q ρ = some y) : dAnd p q ρ = some (x && y) := by
  unfold dAnd; rw [ha]; cases x
  · rfl
  · rw [hb rfl]; rfl
theorem ev_or {p q : Rho → Option Bool} {x y : Bool} (ha : p ρ = some x) (hb : x = false → q ρ = some y) : dOr p q ρ = some (x || y) := by
  unfold dOr; rw [ha]; cases x
  · rw [hb rfl]; rfl
  · rfl
theorem ev_andV {x y : Bool} (ha : a ρ = some (.bl x)) (hb : x = true → b ρ = some (.bl y)) : dAndV a b ρ = some (.bl (x && y)) := by
  unfold dAndV; rw [ha]; cases x
  · rfl
  · rw [hb rfl]; rfl
theorem ev_orV {x y : Bool} (ha : a ρ = some (.bl x)) (hb : x = false → b ρ = some (.bl y)) : dOrV a b ρ = some (.bl (x || y)) := by
  unfold dOrV; rw [ha]; cases x
  · rw [hb rfl]; rfl
  · rfl
theorem ev_notV {x : Bool} (ha : a ρ = some (.bl x)) : dNotV a ρ = some (.bl (!x)) := by unfold dNotV; rw [ha]
theorem ev_scal (ha : a ρ = some d) (h : d.scal = true) : gScal a ρ = some d := by unfold gScal; rw [ha]; exact if_pos h
theorem ev_lst (h : es ρ = some ds) : dLst es ρ = some (.lst ds) := by unfold dLst; rw [h]; rfl
theorem ev_tup (h : es ρ = some ds) : dTup es ρ = some (.tup ds) := by unfold dTup; rw [h]; rfl
theorem ev_cons (h : a ρ = some d) (h2 : es ρ = some ds) : dCons a es ρ = some (d :: ds) := by unfold dCons; rw [h, h2]
theorem ev_ix (ha : a ρ = some d) (hb : b ρ = some (.int i)) (h : ixD d i = some e) : dIx a b ρ = some e := by unfold dIx; rw [ha, hb]; exact h
theorem ev_f1 {g : D → Option D} (ha : a ρ = some d) (h : g d = some e) : dF1 g a ρ = some e := by unfold dF1; rw [ha]; exact h
theorem ev_call {F : List D → Option D} (h : es ρ = some ds) (h2 : F ds = some d) : dCall F es ρ = some d := by unfold dCall; rw [h]; exact h2
theorem ev_eq {neg : Bool} (ha : a ρ = some d) (hb : b ρ = some e) (h : cmpb 20 d e = true) : dEq neg a b ρ = some (.bl (if neg = true then !decide (d = e) else decide (d = e))) := by unfold dEq; rw [ha, hb]; exact if_pos h
theorem ev_eqI {neg : Bool} (ha : a ρ = some (.int i)) (hb : b ρ = some (.int j)) : dEq neg a b ρ = some (.bl (if neg = true then !decide (i = j) else decide (i = j))) := by
  rw [ev_eq ha hb rfl]
  have e : decide (D.int i = D.int j) = decide (i = j) := by rw [dec_int]; rw [Bool.eq_iff_iff]; simp
  rw [e]
theorem ev_eqF (ha : a ρ = some (.int i)) (hb : b ρ = some (.int j)) : dEq false a b ρ = some (.bl (decide (i = j))) := ev_eqI (neg := false) ha hb
theorem ev_neF (ha : a ρ = some (.int i)) (hb : b ρ = some (.int j)) : dEq true a b ρ = some (.bl (decide (i ≠ j))) := by
  rw [ev_eqI (neg := true) ha hb, if_pos rfl]
  congr 2
  rw [Bool.eq_iff_iff]
  simp
theorem ev_eqSame {d : D} (ha : a ρ = some d) (hb : b ρ = some d) (h : cmpb 20 d d = true) : dEq false a b ρ = some (.bl true) := by
  rw [ev_eq ha hb h, if_neg Bool.false_ne_true, decide_eq_true rfl]
theorem cmp_ints {n : Nat} (xs ys : List Int) : cmpb (n + 1) (.lst (xs.map D.int)) (.lst (ys.map D.int)) = true := by
  show (decide _ || (List.zip (xs.map D.int) (ys.map D.int)).all fun p => cmpb n p.1 p.2) = true
  rw [Bool.or_eq_true]
  refine .inr (List.all_eq_true.mpr fun q hq => ?_)
  obtain ⟨a, b⟩ := q
  obtain ⟨h1, h2⟩ := List.of_mem_zip hq
  obtain ⟨x, _, rfl⟩ := List.mem_map.mp h1
  obtain ⟨y, _, rfl⟩ := List.mem_map.mp h2
  cases n <;> rfl
theorem ev_asL (ha : a ρ = some d) (h : lof d = some ds) : asL a ρ = some ds := by unfold asL; rw [ha]; exact h
theorem ev_rg1 (ha : a ρ = some (.int i)) (h : -(2 ^ 62) ≤ i ∧ i.toNat ≤ sizeLine) : dRg1 a ρ = some (upL 0 i.toNat) := by unfold dRg1; rw [ha]; exact if_pos h
theorem ev_rg2 (ha : a ρ = some (.int i)) (hb : b ρ = some (.int j)) (h : -(2 ^ 62) ≤ i ∧ i < 2 ^ 62 ∧ -(2 ^ 62) ≤ j ∧ j < 2 ^ 62 ∧ (j - i).toNat ≤ sizeLine) : dRg2 a b ρ = some (upL i (j - i).toNat) := by unfold dRg2; rw [ha, hb]; exact if_pos h
theorem ev_rep (h : es ρ = some ds) (hb : b ρ = some (.int i)) (hc : -(2 ^ 63) ≤ i ∧ i < 2 ^ 63 ∧ ds.length * i.toNat ≤ sizeLine) : dRep es b ρ = some (List.replicate i.toNat ds).flatten := by unfold dRep; rw [h, hb]; exact if_pos hc
theorem ev_sl {lo hi : Rho → Option (Option Int)} {l u : Option Int} (h : asL a ρ = some ds) (h1 : lo ρ = some l) (h2 : hi ρ = some u) : dSl a lo hi ρ = some (cutL ds l u) := by unfold dSl; rw [h, h1, h2]
theorem ev_lof (h : a ρ = some d) (hl : lof d = some ds) : dLof a ρ = some ds := by
  unfold dLof; rw [h]
  cases d with
  | lst xs => exact hl
  | scr ns => exact hl
  | _ => cases hl
theorem ev_cat {xs ys : List D} (ha : a ρ = some (.lst xs)) (hb : b ρ = some (.lst ys)) (h : xs.length + ys.length ≤ sizeLine) : dCat a b ρ = some (xs ++ ys) := by unfold dCat; rw [ha, hb]; exact if_pos h
theorem ev_oSome (ha : a ρ = some (.int i)) : oSome a ρ = some (some i) := by unfold oSome; rw [ha]
theorem run_of {n : Nat} {ms : List Bool} {b : DS} {ds : List D} {P : D → Prop} (h : Wp b (stD n ms ds) { nx := fun _ => P .non, rt := P }) : ∃ d, runD n ms b ds = some d ∧ P d := by
  unfold Wp at h
  unfold runD
  cases e : b (stD n ms ds) with
  | nx ρ => rw [e] at h; exact ⟨_, rfl, h⟩
  | rt d => rw [e] at h; exact ⟨_, rfl, h⟩
  | bk ρ => rw [e] at h; exact h.elim
  | ct ρ => rw [e] at h; exact h.elim
  | no => rw [e] at h; exact h.elim
theorem run_eq {n : Nat} {ms : List Bool} {b : DS} {ds : List D} {d : D} (h : Wp b (stD n ms ds) { nx := fun _ => D.non = d, rt := fun x => x = d }) : runD n ms b ds = some d := by
  obtain ⟨x, e, rfl⟩ := run_of (P := fun x => x = d) h
  exact e
theorem run_ofF {F : List D → Option D} {n : Nat} {ms : List Bool} {b : DS} (hF : F = runD n ms b) {ds : List D} {P : D → Prop} (h : Wp b (stD n ms ds) { nx := fun _ => P .non, rt := P }) : ∃ d, F ds = some d ∧ P d := by rw [hF]; exact run_of h
theorem run_eqF {F : List D → Option D} {n : Nat} {ms : List Bool} {b : DS} (hF : F = runD n ms b) {ds : List D} {d : D} (h : Wp b (stD n ms ds) { nx := fun _ => D.non = d, rt := fun x => x = d }) : F ds = some d := by rw [hF]; exact run_eq h
theorem imul {i j : Int} (h : (-(2 ^ 64) < i ∧ i < 2 ^ 64) ∨ (-(2 ^ 64) < j ∧ j < 2 ^ 64)) : IntMulOk i j := CMul.ok h
theorem ixI {ns : List Int} {i : Int} (h0 : 0 ≤ i) (h1 : i < ns.length) : ixD (.lst (ns.map D.int)) i = some (.int (ns.getD i.toNat 0)) := by
  show atI (ns.map D.int) i = _
  unfold atI ixN
  rw [if_pos h0, List.length_map, if_pos h1]
  show (ns.map D.int)[i.toNat]? = _
  have hi : i.toNat < ns.length := by omega
  rw [List.getElem?_map, List.getElem?_eq_getElem hi, List.getD_eq_getElem?_getD, List.getElem?_eq_getElem hi]
  rfl
theorem ixS {ns : List Int} {i : Int} (h0 : 0 ≤ i) (h1 : i < ns.length) : ixD (.scr ns) i = some (.int (ns.getD i.toNat 0)) := by
  show (atI ns i).map D.int = _
  unfold atI ixN
  rw [if_pos h0, if_pos h1]
  have hi : i.toNat < ns.length := by omega
  show (ns[i.toNat]?).map D.int = _
  rw [List.getElem?_eq_getElem hi, List.getD_eq_getElem?_getD, List.getElem?_eq_getElem hi]
  rfl
/-- one of two, three, four -/
def pk2 (i x y : Int) : Int := if i = 0 then x else y
def pk3 (i x y z : Int) : Int := if i = 0 then x else if i = 1 then y else z
def pk4 (i x y z u : Int) : Int := if i = 0 then x else if i = 1 then y else if i = 2 then z else u
theorem ix2I (c x y : Int) : ixD (.lst [.int x, .int y]) (c % 2) = some (.int (pk2 (c % 2) x y)) := by
  have h : c % 2 = 0 ∨ c % 2 = 1 := by omega
  rcases h with h | h <;> rw [h] <;> rfl
theorem ix3I (c x y z : Int) : ixD (.lst [.int x, .int y, .int z]) (c % 3) = some (.int (pk3 (c % 3) x y z)) := by
  have h : c % 3 = 0 ∨ c % 3 = 1 ∨ c % 3 = 2 := by omega
  rcases h with h | h | h <;> rw [h] <;> rfl
theorem ix4I (c x y z u : Int) : ixD (.lst [.int x, .int y, .int z, .int u]) (c % 4) = some (.int (pk4 (c % 4) x y z u)) := by
  have h : c % 4 = 0 ∨ c % 4 = 1 ∨ c % 4 = 2 ∨ c % 4 = 3 := by omega
  rcases h with h | h | h | h <;> rw [h] <;> rfl
theorem ixN_in {n : Nat} {i : Int} (h0 : 0 ≤ i) (h1 : i < n) : ixN n i = some i.toNat := by unfold ixN; rw [if_pos h0, if_pos h1]
end
end
end VL

set_option Elab.async false
set_option linter.all false
set_option maxRecDepth 100000
namespace L2
open PySem PySem.Spec PyProof.Rows
/-! the loop of min with a default -/
section
variable {prog : Program} {w : World} {A : Around} {R : Result → Shared → Prop} {I : Addr} {fp wr : List Addr} {n : Nat} {P : Nat → Value → Prop} {St : Nat → Heap → Prop} {kw : List (Str × Value)}
end
section
variable {prog : Program} {w : World} {A : Around} {E : Value → Shared → Prop} {s : Shared}
end
section
variable {X : Cx}
end
section
variable {X : Cx} {K : PySem.W.Frag}
end
end L2
namespace VL
open PySem L2
open Classical
noncomputable section
section
variable {K : PySem.W.Frag} {ta tb tc : TE} {a b c : DE}
theorem fdok {j : Int} (h0 : 0 < j) (h1 : j < 2 ^ 64) : 0 < j ∧ j.natAbs.log2 < 9000 := by
  refine ⟨h0, (Nat.log2_lt (by omega)).mpr (Nat.lt_of_lt_of_le (m := 2 ^ 64) (by omega) (Nat.pow_le_pow_right (by decide) (by decide)))⟩
end
end
end VL
namespace L2
end L2

set_option Elab.async false
set_option linter.all false
set_option maxRecDepth 100000
/-! a comprehension whose targets are asked by a comprehension within -/
namespace L2
open PySem PySem.Spec PyProof.Rows
open VL (s0)
structure FreesC (X : Cx) (N' : List Str) (scope : Scope) (cl : List (Str × Addr)) (σ σ0 : St) : Prop where
  sub : ∀ x c, cl.lookup x = some c → X.env.cells.lookup x = some c
  vals : ∀ (j : Nat) (x : Str) (v : V), N'[j]? = some x → σ0[j]? = some (some v) → ∃ (i : Nat) (c : Addr), X.N[i]? = some x ∧ σ[i]? = some (some v) ∧ Vis X.env.scope x ∧ X.env.kindOf x ≠ some .local ∧ cl.lookup x = some c ∧
    ((relabel scope X.env).names.lookup x = some .cell ∨ (relabel scope X.env).names.lookup x = some .free)
  vout : ∀ (j : Nat) (x : Str) (v : V), N'[j]? = some x → σ0[j]? = some (some v) → (scope.names.all fun y => !(y.2 == .cell) || !(y.1 == x)) = true
  has : ∀ x, ((relabel scope X.env).names.lookup x = some .cell ∨ (relabel scope X.env).names.lookup x = some .free) → scope.names.lookup x = some .cell ∨ (cl.lookup x).isSome = true
  out : ∀ x c, (scope.names.lookup x == some .cell) = true → ¬ cl.lookup x = some c
  len : σ0.length = N'.length
section
variable {X : Cx} {tg elt iter : Expr} {ifs : List Expr} {scope : Scope} {cl : List (Str × Addr)} {N' : List Str} {σ0 : St → St} {g : TG} {tt : TT} {te : TE}
variable {pos : Pos} {wi : TI}
theorem FreesC.many {is : List Nat} {ts zs : List Str} {k : Nat} {σ : St} (hk : ts.length = k) (hs : SubL X cl) (hc : CapL X scope cl is zs)
    (ha : ((relabel scope X.env).names.all fun y => !(y.2 == .cell || y.2 == .free) || zs.contains y.1 || (scope.names.lookup y.1 == some .cell)) = true)
    (ho : (zs.all fun z => scope.names.all fun y => !(y.2 == .cell) || !(y.1 == z)) = true) (hcl : (scope.names.all fun y => !(y.2 == .cell) || (cl.lookup y.1).isNone) = true) : FreesC X (ts ++ zs) scope cl σ (s0 k is σ) := by
  have vals : ∀ (j : Nat) (x : Str) (v : V), (ts ++ zs)[j]? = some x → (s0 k is σ)[j]? = some (some v) → x ∈ zs ∧ ∃ (i : Nat) (c : Addr), X.N[i]? = some x ∧ σ[i]? = some (some v) ∧ Vis X.env.scope x ∧ X.env.kindOf x ≠ some .local ∧ cl.lookup x = some c ∧
    ((relabel scope X.env).names.lookup x = some .cell ∨ (relabel scope X.env).names.lookup x = some .free) := fun j x v e1 e2 => by
    unfold s0 at e2
    by_cases hj : j < k
    · rw [List.getElem?_append_left (by simpa using hj), List.getElem?_replicate, if_pos hj] at e2; cases e2
    · rw [List.getElem?_append_right (by simpa using hj), List.length_replicate, List.getElem?_map] at e2
      rw [List.getElem?_append_right (by omega), hk] at e1
      obtain ⟨i, c, f1, f2, f3, f4, f5⟩ := hc.get _ _ e1
      rw [f1] at e2
      have e3 : (σ[i]?).join = some v := Option.some.inj e2
      refine ⟨List.mem_of_getElem? e1, i, c, f2, VL.join_some e3, ?_, ?_, f4, f5⟩
      · rcases f3 with q | q
        · exact .inr (.inl q)
        · exact .inr (.inr q)
      · intro w
        have w : X.env.scope.names.lookup x = some .local := w
        rcases f3 with q | q <;> rw [q] at w <;> cases w
  refine ⟨hs.sub, fun j x v e1 e2 => (vals j x v e1 e2).2, fun j x v e1 e2 => List.all_eq_true.mp ho x (vals j x v e1 e2).1, fun x h => ?_, fun x c h e => ?_, by unfold s0; rw [List.length_append, List.length_append, List.length_replicate, List.length_map, hk, hc.len]⟩
  · have key : ∀ kd, (relabel scope X.env).names.lookup x = some kd → (kd == NameKind.cell || kd == NameKind.free) = true → x ∈ zs ∨ scope.names.lookup x = some .cell := fun kd e q => by
      have m := List.all_eq_true.mp ha _ (PySem.mem_of_lookup e)
      rw [q] at m
      have m' : zs.contains x = true ∨ (scope.names.lookup x == some .cell) = true := by simpa using m
      rcases m' with m' | m'
      · exact .inl (List.contains_iff_mem.mp m')
      · exact .inr (eq_of_beq m')
    have mem : x ∈ zs ∨ scope.names.lookup x = some .cell := by
      rcases h with h | h
      · exact key _ h rfl
      · exact key _ h rfl
    rcases mem with mem | mem
    · obtain ⟨j, hj⟩ := List.getElem?_of_mem mem
      obtain ⟨i, c, _, _, _, f4, _⟩ := hc.get j x hj
      exact .inr (by rw [f4]; rfl)
    · exact .inl mem
  · have m := List.all_eq_true.mp hcl _ (PySem.mem_of_lookup (eq_of_beq h))
    rw [e] at m
    simp at m
variable {c : Expr} {ts zs : List Str} {is : List Nat} {k : Nat}
end
end L2
namespace L2
open PySem PySem.Spec PyProof.Rows
end L2

set_option Elab.async false
set_option linter.all false
set_option maxRecDepth 100000
namespace L2
open PySem PySem.Spec PyProof.Rows
/-! zip of two lists -/
section
variable {X : Cx}
end
end L2
namespace VL
open PySem L2
open Classical
noncomputable section
variable {K : PySem.W.Frag}
end
end VL
namespace PySem
open Sem (wp)
/-! the next of a tuple's iterator; enumerate of a tuple -/
section
variable {prog : Program} {w : World} {A : Around} {E : Value → Shared → Prop} {s : Shared}
end
end PySem
namespace L2
open PySem PySem.Spec PyProof.Rows
section
variable {X : Cx}
end
end L2
namespace VL
open PySem L2
open Classical
noncomputable section
variable {K : PySem.W.Frag}
end
end VL

set_option Elab.async false
set_option linter.all false
set_option maxRecDepth 100000
namespace VL
open PySem L2
open Classical
noncomputable section
variable {K : PySem.W.Frag} {fr : Fm}
/-! what is new -/
def SemM (K : PySem.W.Frag) (t : TE) (e : Rho → Option (List (List D))) : Prop := ∀ {B : Hp} {Z : Addr → Prop} {os : Own} {ρ : Rho} {σ : L2.St} {H : Hp} {Q : VK} {rows : List (List D)}, Fr K B Z os ρ σ H → e ρ = some rows →
  (∀ x ps H', Same H H' → H x = none → (∀ a ∈ ps, H a = none) → (x :: ps).Nodup → H' x = some (.lst (ps.map V.ref)) → ps.length ≤ sizeLine → Paired (fun q ds => ∃ vs, H' q = some (.lst vs) ∧ vs.length ≤ sizeLine ∧ IsL K H' (fun a => (a = x ∨ a ∈ ps) ∨ tot Z os a) vs ds) ps rows → Q (.ref x) H') → t σ H Q
def rowsL (rows : List (List D)) : D := .lst (rows.map D.lst)
def dMat (e : Rho → Option (List (List D))) : DE := fun ρ => (e ρ).map rowsL
theorem dMat_some {e : Rho → Option (List (List D))} {ρ : Rho} {d : D} (h : dMat e ρ = some d) : ∃ rows, e ρ = some rows ∧ d = rowsL rows := by
  unfold dMat at h
  cases q : e ρ with
  | none => rw [q] at h; cases h
  | some rows => rw [q] at h; exact ⟨rows, rfl, (Option.some.inj h).symm⟩
theorem SemM.i {t : TE} {e : Rho → Option (List (List D))} (h : SemM K t e) : SemI K t (dMat e) := fun {B Z os ρ σ H Q d} f q k => by
  obtain ⟨rows, e1, rfl⟩ := dMat_some q
  refine h f e1 fun x ps H' s hx hps _ hH hl r => k _ _ s (.lst (f.out hx) (.inl hH) (by rw [List.length_map]; exact hl) (rows_isZ (fun a z => .inr z) (fun p hp => f.out (hps p hp)) r))
/-! handing back -/
/-! an owned list of owned lists -/
end
end VL

set_option Elab.async false
set_option linter.all false
set_option maxRecDepth 100000
namespace VL
open PySem L2
open Classical
noncomputable section
variable {K : PySem.W.Frag} {fr : Fm}
/-! what these come to -/
section
variable {s u b : DS} {ρ : Rho} {W : Wk} {i : Nat} {a e k c : DE} {d : D} {rows : List (List D)} {ds : List D}
end
theorem run_ofG {F : List D → Option D} {n : Nat} {ms : List Bool} {b : DS} (hF : F = runF n ms b) {ds : List D} {P : D → Prop} (h : Wp b (stD n ms ds) { nx := fun _ => False, rt := P }) : ∃ d, F ds = some d ∧ P d := by
  rw [hF]
  unfold runF
  unfold Wp at h
  cases e : b (stD n ms ds) with
  | rt x => rw [e] at h; exact ⟨x, rfl, h⟩
  | nx ρ => rw [e] at h; exact h.elim
  | bk ρ => rw [e] at h; exact h.elim
  | ct ρ => rw [e] at h; exact h.elim
  | no => rw [e] at h; exact h.elim
end
end VL

set_option Elab.async false
set_option linter.all false
set_option maxRecDepth 100000
namespace VL
open PySem L2
open Classical
noncomputable section
variable {K : PySem.W.Frag} {fr : Fm}
/-! x[b] = a new list, x an owned list of owned lists -/
/-! a row by another name: y = x[b]; y[c] = a; .. -/
inductive Puts (K : PySem.W.Frag) : List (TE × TE) → List (DE × DE) → Prop
  | nil : Puts K [] []
  | cons {tc ta : TE} {c a : DE} {l : List (TE × TE)} {l' : List (DE × DE)} (ha : SemI K ta a) (hc : SemB K tc c) (r : Puts K l l') : Puts K ((tc, ta) :: l) ((c, a) :: l')
theorem Fr.drop {B H : Hp} {Z : Addr → Prop} {os : Own} {ρ : Rho} {σ : L2.St} (f : Fr K B Z os ρ σ H) {j : Nat} (hj : j < ρ.length) (v : V) : Fr K B Z (putO os j []) (ρ.set j .un) (σ.set j (some v)) H ∧ Kp (tot Z os) H (tot Z (putO os j [])) H :=
  f.step hj (fun a u e _ => e) (fun a ha => let ⟨xs, e⟩ := (f.sl j).dom ha; ⟨_, e⟩) List.nodup_nil (fun a h => by cases h) rfl
end
end VL

set_option Elab.async false
set_option linter.all false
set_option maxRecDepth 100000
/-! exceptions of the program's own classes: raised, passed on, caught -/
namespace L2
open PySem PySem.Spec PyProof.Rows
theorem mapF_dict (o : Obj) (f) : (o.mapFields f).dict = o.dict := by
  cases o with | mk c d dt sl => cases dt <;> rfl
/-- an exception of the class, its traceback at T, whose mark is fl -/
def Rec (h : Heap) (e T : Addr) (cls fl : Value) : Prop :=
  ∃ oe vs oT ts, (h.get? e = some oe ∧ oe.cls = cls ∧ oe.dict = none ∧ oe.data = .fields vs) ∧ vs[1]? = some (.ref T) ∧ T ≠ e ∧ h.get? T = some oT ∧ oT.data = .fields ts ∧ ts[3]? = some fl
/-- all is kept but the slots of the frames, and what stands at ch -/
structure Hop (fr ch : List Addr) (h h' : Heap) : Prop where
  keep : ∀ b o, b ∉ fr → b ∉ ch → h.get? b = some o → h'.get? b = some o
  slot : ∀ b o, b ∉ ch → h.get? b = some o → ∃ sl, h'.get? b = some { o with slots := sl }
theorem Hop.trans {fr c1 c2 : List Addr} {h h1 h2 : Heap} (a : Hop fr c1 h h1) (b : Hop fr c2 h1 h2) : Hop fr (c1 ++ c2) h h2 where
  keep := fun x o hf hc q => b.keep x o hf (fun z => hc (List.mem_append_right _ z)) (a.keep x o hf (fun z => hc (List.mem_append_left _ z)) q)
  slot := fun x o hc q => by
    obtain ⟨s1, q1⟩ := a.slot x o (fun z => hc (List.mem_append_left _ z)) q
    obtain ⟨s2, q2⟩ := b.slot x _ (fun z => hc (List.mem_append_right _ z)) q1
    exact ⟨s2, q2⟩
theorem Hop.upd {fr : List Addr} {h : Heap} {a : Addr} (f : Obj → Obj) : Hop fr [a] h (h.update a f) where
  keep := fun b o _ hc q => by rw [Heap.get?_update_other _ _ fun z => hc (by rw [z]; exact List.mem_singleton.mpr rfl)]; exact q
  slot := fun b o hc q => ⟨o.slots, by rw [Heap.get?_update_other _ _ fun z => hc (by rw [z]; exact List.mem_singleton.mpr rfl)]; exact q⟩
theorem Hop.of {fr ch : List Addr} {h h' : Heap} (k : ∀ b o, h.get? b = some o → h'.get? b = some o) : Hop fr ch h h' := ⟨fun b o _ _ q => k b o q, fun b o _ q => ⟨o.slots, k b o q⟩⟩
section
variable {M : Model} {A : Around} {E : Value → Shared → Prop} {s : Shared} {base : Heap} {env : Env} {outer : List Env} {L e T : Addr} {cls fl : Value} {Q : Unit → Shared → Prop}
/-- a frame is written into the traceback of the exception at e -/
theorem entry_step {oe : Obj} {vs : Array Value} {head : Value} {more : Bool} (h1 : A.frames = some (env :: outer)) (h2 : s.heap.FunFrames base (env :: outer)) (h3 : env.frame = some L)
    (h4 : s.heap.get? e = some oe) (h5 : oe.data = .fields vs) (h6 : 1 < vs.size) (h7 : oe.dict = none)
    (q : ∀ h' T, s.heap.get? T = none → Rec h' e T oe.cls (rawInt L) → Hop (frs (env :: outer)) [e] s.heap h' → Q () { s with heap := h' }) :
    wpAny M A (do let f ← frameOf env; let p ← entryPlaceOf L more; let b ← EntryCells.newEntry head f .none (rawInt L) .none p; setField (.ref e) 1 b) Q E s := by
  have nf : e ∉ frs (env :: outer) := fun hm => by
    obtain ⟨_, o, ho, hz⟩ := h2.mem hm
    rw [h4] at ho
    cases ho
    exact hz vs h5
  refine wpAny_bind (wpAny_frameOf_fun h1 h2 h3 fun g so => wpAny_bind (wpAny_entryPlaceOf fun p hp => ?_))
  obtain ⟨z1, z2, z3⟩ := so
  unfold EntryCells.newEntry newFields
  refine wpAny_bind (wpAny_newObj_type ?_ (hp.sizeOk5 _ _ _ _ _))
  have e1 : g.get? e = some oe := by rw [z2 e nf]; exact h4
  have e2 := Heap.get?_push_of_some (h := g) { cls := .type "traceback", dict := none, data := .fields ([head, .ref L, .none, rawInt L, .none] ++ (if p.isEmpty then List.replicate 6 Value.none else p)).toArray } e1
  refine wpAny_setField e2 h5 h6 (q _ g.objs.size ?_ ?_ ?_)
  · exact Heap.get?_none_of_le (by rw [z1]; exact Nat.le_refl _)
  · have ne : g.objs.size ≠ e := Nat.ne_of_gt (Heap.lt_size e1)
    have d := Obj.data_mapFields h5 (·.setIfInBounds 1 (Value.ref g.objs.size))
    refine ⟨_, _, _, _, ⟨Heap.get?_update_self _ e2 (Obj.isFreed_of_fields d), Obj.cls_mapFields _ _, by rw [mapF_dict]; exact h7, d⟩, by simp [h6], ne, (Heap.get?_update_other _ _ (Ne.symm ne)).trans (Heap.get?_push_size g rfl), rfl, ?_⟩
    first
      | (simp; done)
      | (rcases hp with rfl | ⟨_, _, _, _, _, _, _, rfl⟩ <;> simp)
  · refine ⟨fun b o hb hc y => ?_, fun b o hc y => ?_⟩
    · rw [Heap.get?_update_other _ _ fun z => hc (by rw [z]; exact List.mem_singleton.mpr rfl)]
      exact Heap.get?_push_of_some _ (by rw [z2 b hb]; exact y)
    · obtain ⟨sl, y1⟩ := z3 b o y
      refine ⟨sl, ?_⟩
      rw [Heap.get?_update_other _ _ fun z => hc (by rw [z]; exact List.mem_singleton.mpr rfl)]
      exact Heap.get?_push_of_some _ y1
/-- the first frame -/
theorem note_first {oe : Obj} {vs : Array Value} (h1 : A.frames = some (env :: outer)) (h2 : s.heap.FunFrames base (env :: outer)) (h3 : env.frame = some L)
    (h4 : s.heap.get? e = some oe) (h5 : oe.data = .fields vs) (h6 : vs[1]? = some .none) (h7 : oe.dict = none)
    (q : ∀ h' T, s.heap.get? T = none → Rec h' e T oe.cls (rawInt L) → Hop (frs (env :: outer)) [e] s.heap h' → Q () { s with heap := h' }) : wpAny M A (noteFrame (.ref e) env) Q E s := by
  unfold noteFrame
  simp only [h3]
  refine wpAny_bind (wpAny_field h4 h5 h6 ?_)
  rw [if_neg (by decide)]
  exact entry_step h1 h2 h3 h4 h5 (Array.getElem?_eq_some_iff.mp h6).1 h7 q
/-- a further frame -/
theorem note_next (h1 : A.frames = some (env :: outer)) (h2 : s.heap.FunFrames base (env :: outer)) (h3 : env.frame = some L) (r : Rec s.heap e T cls .none)
    (q : ∀ h' T', s.heap.get? T' = none → Rec h' e T' cls (rawInt L) → Hop (frs (env :: outer)) [T, e] s.heap h' → Q () { s with heap := h' }) : wpAny M A (noteFrame (.ref e) env) Q E s := by
  obtain ⟨oe, vs, oT, ts, ⟨a1, a2, a3, a4⟩, b1, ne, b2, b3, b4⟩ := r
  subst a2
  unfold noteFrame
  simp only [h3]
  refine wpAny_bind (wpAny_field a1 a4 b1 ?_)
  rw [if_pos (by simp)]
  refine wpAny_bind (wpAny_field b2 b3 b4 ?_)
  rw [if_neg (by simp [rawInt])]
  refine wpAny_bind (wpAny_setField b2 b3 (Array.getElem?_eq_some_iff.mp b4).1 ?_)
  have other : ∀ b, b ≠ T → ∀ x : Obj → Obj, (s.heap.update T x).get? b = s.heap.get? b := fun b hb x => Heap.get?_update_other _ _ (Ne.symm hb)
  refine entry_step h1 (h2.of_keeps fun b o hb hn => ⟨o, ?_, rfl⟩) h3 ((other e (Ne.symm ne) _).trans a1) a4 (Array.getElem?_eq_some_iff.mp b1).1 a3 fun h' T' n1 r1 hp => q h' T' ?_ r1 ?_
  · rw [other b (fun z => by rw [z, b2] at hb; cases hb; exact hn ts b3)]; exact hb
  · by_cases z : T' = T
    · rw [z] at n1
      rw [Heap.get?_update_self _ b2 (Obj.isFreed_of_fields (Obj.data_mapFields b3 _))] at n1
      cases n1
    · rw [other T' z] at n1; exact n1
  · exact (Hop.upd (fr := frs (env :: outer)) _).trans hp
/-- the mark is taken away -/
theorem land (r : Rec s.heap e T cls fl) (q : ∀ h', Rec h' e T cls .none → Hop (frs (env :: outer)) [T] s.heap h' → Q () { s with heap := h' }) : wpAny M A (setFlight (.ref e) none) Q E s := by
  obtain ⟨oe, vs, oT, ts, ⟨a1, a2, a3, a4⟩, b1, ne, b2, b3, b4⟩ := r
  refine wpAny_setFlight_none a1 a4 b1 b2 b3 (Array.getElem?_eq_some_iff.mp b4).1 (q _ ?_ (Hop.upd _))
  have d := Obj.data_mapFields b3 (·.setIfInBounds 3 Value.none)
  exact ⟨oe, vs, _, _, ⟨(Heap.get?_update_other _ _ ne).trans a1, a2, a3, a4⟩, b1, ne, Heap.get?_update_self _ b2 (Obj.isFreed_of_fields d), d, by simp [(Array.getElem?_eq_some_iff.mp b4).1]⟩
end
/-- an address that no one here knows -/
structure Out (X : Cx) (pins : List (Addr × Obj)) (H : Hp) (b : Addr) : Prop where
  h : H b = none
  s0 : X.s₀.heap.get? b = none
  loc : b ≠ X.env.locals
  cell : ∀ x c, X.env.cells.lookup x = some c → c ≠ b
  pin : ∀ p ∈ X.pn ++ pins, p.1 ≠ b
section
variable {P : Program} {w : World} {H : Hp} {h : Heap} {a : Addr} {o : HO}
theorem ObjOk.live (x : ObjOk P w H h a o) : ∃ u, h.get? a = some u := by
  cases o with
  | lst xs => obtain ⟨_, _, _, _, e⟩ := x; exact ⟨_, e⟩
  | tup xs => obtain ⟨_, _, _, ob, e, _⟩ := x; exact ⟨_, e⟩
  | dK kvs => obtain ⟨_, _, _, _, o, _, _, e, _⟩ := x; exact ⟨_, e⟩
  | dT kvs => obtain ⟨_, _, _, _, o, _, _, e, _⟩ := x; exact ⟨_, e⟩
  | set S n => obtain ⟨o, _, _, _, e, _⟩ := x; exact ⟨_, e⟩
  | ins C dx fs => obtain ⟨_, _, _, e, _⟩ := x; exact ⟨_, e⟩
  | own y => exact x
  | xd fs => obtain ⟨_, ⟨_, _, _, e, _⟩, _⟩ := x; exact ⟨_, e⟩
  | rng lo hi => obtain ⟨_, _, _, e⟩ := x; exact ⟨_, e⟩
  | frz ob u => obtain ⟨e, _⟩ := x; exact ⟨_, e⟩
  | tbl ps => exact ⟨_, show h.get? a = some _ from x⟩
  | met f y => exact ⟨_, show h.get? a = some _ from x⟩
  | ext φ => obtain ⟨_, e, _⟩ := x; exact e
end
section
variable {X : Cx} {pins : List (Addr × Obj)} {σ : St} {H H' : Hp} {s : Shared}
theorem Inv.out (I : Inv X pins σ H s) (hx : X.ex = []) {b : Addr} (e : s.heap.get? b = none) : Out X pins H b where
  h := by
    cases q : H b with
    | none => rfl
    | some o => obtain ⟨u, hu⟩ := (I.hok b o q).live; rw [e] at hu; cases hu
  s0 := by
    cases q : X.s₀.heap.get? b with
    | none => rfl
    | some o => obtain ⟨u, hu⟩ := I.base.there b o q (by rw [hx]; simp); rw [e] at hu; cases hu
  loc := fun z => by
    obtain ⟨m, ⟨o, _, _, ho, _⟩, _⟩ := I.loc
    rw [← z, e] at ho; cases ho
  cell := fun x c q z => by
    obtain ⟨v, o, ho, _⟩ := I.cell x c q
    rw [z, e] at ho; cases ho
  pin := fun p hp z => by
    have := (I.pin p hp).1
    rw [z, e] at this; cases this
/-- the heap hops: what is tracked and what is pinned stays -/
theorem Inv.hop {h' : Heap} {ch : List Addr} {t' : Nat} (I : Inv X pins σ H s) (hp : Hop (frs X.stack) ch s.heap h') (hc : ∀ b ∈ ch, Out X pins H b) : Inv X pins σ H { s with heap := h', toks := t' } := by
  have nst : ∀ b, b ≠ X.env.locals → b ∉ X.fs → b ∉ frs X.stack := fun b h1 h2 h3 => by
    rcases List.mem_cons.mp (I.stkSub b h3) with z | z
    · exact h1 z
    · exact h2 z
  have neC : ∀ b o, X.s₀.heap.get? b = some o → b ∉ ch := fun b o e z => by rw [(hc b z).s0] at e; cases e
  have neL : ∀ b o, X.s₀.heap.get? b = some o → b ≠ X.env.locals := fun b o e => Nat.ne_of_lt (Nat.lt_of_lt_of_le (Heap.lt_size e) I.ok.above)
  have cellK : ∀ x c, X.env.cells.lookup x = some c → ∀ v, s.heap.IsCell c v → h'.IsCell c v := fun x c e v ⟨o, ho, hd⟩ => by
    obtain ⟨sl, q⟩ := hp.slot c o (fun z => (hc c z).cell x c e rfl) ho
    exact ⟨_, q, hd⟩
  refine ⟨I.ok, I.os, I.bare, ⟨fun b o e n hb hx => ?_, fun b o e n hb hx => ?_, I.base.free, fun b o e hx => ?_, I.base.tups, I.base.frzs, I.base.tbls⟩, ?_, fun x c e => ?_, I.free, I.freeC, fun p hq => ?_, fun b u e => ?_, I.len⟩
  · exact hp.keep b o (nst b (neL b o e) hb) (neC b o e) (I.base.keep b o e n hb hx)
  · obtain ⟨sl, e1⟩ := I.base.slot b o e n hb hx
    obtain ⟨sl', e2⟩ := hp.slot b _ (neC b o e) e1
    exact ⟨sl', e2⟩
  · obtain ⟨o', e1⟩ := I.base.there b o e hx
    obtain ⟨sl, e2⟩ := hp.slot b o' (neC b o e) e1
    exact ⟨_, e2⟩
  · obtain ⟨m, ⟨o, es, ep, ho, r⟩, hl⟩ := I.loc
    obtain ⟨sl, q⟩ := hp.slot _ o (fun z => (hc _ z).loc rfl) ho
    refine ⟨m, ⟨_, es, ep, q, r⟩, fun i x v e1 e2 e3 => ?_⟩
    obtain ⟨u, ru, l⟩ := hl i x v e1 e2 e3
    refine ⟨u, ru, ?_⟩
    rcases l with l | ⟨k, c, e, z⟩
    · exact .inl l
    · exact .inr ⟨k, c, e, cellK x c e _ z⟩
  · obtain ⟨v, z⟩ := I.cell x c e
    exact ⟨v, cellK x c e v z⟩
  · obtain ⟨e, n, ne, nf, d⟩ := I.pin p hq
    exact ⟨hp.keep p.1 p.2 (nst _ ne nf) (fun z => (hc _ z).pin p hq rfl) e, n, ne, nf, d⟩
  · have k : ∀ c v, (H c).isSome = true → s.heap.get? c = some v → h'.get? c = some v := fun c v hs q =>
      hp.keep c v (fun z => by rw [I.stkFree c z] at hs; cases hs) (fun z => by rw [(hc c z).h] at hs; cases hs) q
    refine (I.hok b u e).stay (fun c v hb q => k c v ?_ q) (fun _ q => q) fun _ _ q => q
    rcases hb with rfl | hb
    · rw [e]; rfl
    · rw [hb]; rfl
theorem Out.weak {b : Addr} (o : Out X pins H b) (h : H' b = none) : Out X pins H' b := ⟨h, o.s0, o.loc, o.cell, o.pin⟩
end
/-- an exception flies: of the class, unknown to the state ahead -/
def Fly (h₀ h : Heap) (H : Hp) (e : Addr) (cls : Value) : Prop := ∃ T, Rec h e T cls .none ∧ (H e = none ∧ h₀.get? e = none) ∧ (H T = none ∧ h₀.get? T = none)
/-- how an exception lies behind a call -/
def CXE (P : Program) (w : World) : CXT := fun outer H s E e s' => ∃ a cls H', e = .ref a ∧ s'.os = s.os ∧ AllBare s'.gens ∧ Un (frs outer) [] H H' s.heap s'.heap ∧ HOk P w H' s'.heap ∧ Fly s.heap s'.heap H' a cls ∧ E cls none H'
/-- a def's own context -/
structure OwnX (X : Cx) : Prop where
  stk : X.stack = X.env :: X.outer
  fr : X.env.frame = some X.env.locals
  ex : X.ex = []
section
variable {X : Cx} {pins : List (Addr × Obj)} {σ : St} {H : Hp} {s s' : Shared} {E : XK} {e : Value}
/-- behind a call that raised -/
theorem Inv.raised (I : Inv X pins σ H s) (hx : X.ex = []) (h : CXE X.prog X.w X.stack H s E e s') : ∃ a T cls H', e = .ref a ∧ Inv X pins σ H' s' ∧ Rec s'.heap a T cls .none ∧ Out X pins H' a ∧ Out X pins H' T ∧ E cls none H' := by
  obtain ⟨a, cls, H', rfl, ho, hb, u, hok, ⟨T, r, ⟨a1, a2⟩, b1, b2⟩, q⟩ := h
  exact ⟨a, T, cls, H', rfl, I.call' ho u hok hb (fun b z => absurd z (by simp)), r, (I.out hx a2).weak a1, (I.out hx b2).weak b1, q⟩
/-- the exception leaves the def -/
theorem Inv.leave {a T : Addr} {cls : Value} {Ex : Value → Shared → Prop} (I : Inv X pins σ H s) (ow : OwnX X) (r : Rec s.heap a T cls .none) (o1 : Out X pins H a) (o2 : Out X pins H T) (q : E cls none H) :
    wpAny (model X.prog X.w) X.A (leaving X.env (.ref a)) (fun _ s'' => CXE X.prog X.w X.outer X.H₀ X.s₀ E (.ref a) s'') Ex s := by
  unfold leaving
  refine wpAny_bind (note_next (base := X.base) (outer := X.outer) (by rw [← ow.stk]; exact I.ok.frames) (by rw [← ow.stk]; exact I.stack) ow.fr r fun h1 T' n1 r1 p1 => ?_)
  have o3 := I.out ow.ex n1
  rw [← ow.stk] at p1
  have I1 : Inv X pins σ H { s with heap := h1, toks := s.toks } := I.hop p1 fun b hb => by
    rcases List.mem_cons.mp hb with rfl | hb
    · exact o2
    · rw [List.mem_singleton.mp hb]; exact o1
  refine land (env := X.env) (outer := X.outer) (s := { s with heap := h1 }) r1 fun h2 r2 p2 => ?_
  rw [← ow.stk] at p2
  have I2 : Inv X pins σ H { s with heap := h2, toks := s.toks } := I1.hop p2 fun b hb => by rw [List.mem_singleton.mp hb]; exact o3
  have u := I2.base
  rw [ow.ex] at u
  exact ⟨a, cls, H, rfl, I2.os, I2.bare, u, I2.hok, ⟨T', r2, ⟨o1.h, o1.s0⟩, o3.h, o3.s0⟩, q⟩
/-- .. where it was just made -/
theorem Inv.leaveNew {a : Addr} {h' : Heap} {cls : Value} {vs : List Value} {t' : Nat} {Ex : Value → Shared → Prop} (I : Inv X pins σ H s) (ow : OwnX X) (m : Heap.MadeExcOf s.heap h' a cls vs) (q : E cls none H) :
    wpAny (model X.prog X.w) X.A (leaving X.env (.ref a)) (fun _ s'' => CXE X.prog X.w X.outer X.H₀ X.s₀ E (.ref a) s'') Ex { s with heap := h', toks := t' } := by
  have I0 : Inv X pins σ H { s with heap := h', toks := t' } := I.kept m.keeps
  have o1 := I.out ow.ex m.new
  obtain ⟨t, m1, _, _⟩ := m.there
  unfold leaving
  refine wpAny_bind (note_first (base := X.base) (outer := X.outer) (by rw [← ow.stk]; exact I.ok.frames) (by rw [← ow.stk]; exact I0.stack) ow.fr m1 rfl rfl rfl fun h1 T n1 r1 p1 => ?_)
  have o3 := I0.out ow.ex n1
  rw [← ow.stk] at p1
  have I1 : Inv X pins σ H { s with heap := h1, toks := t' } := I0.hop p1 fun b hb => by rw [List.mem_singleton.mp hb]; exact o1
  refine land (env := X.env) (outer := X.outer) (s := { s with heap := h1, toks := t' }) r1 fun h2 r2 p2 => ?_
  rw [← ow.stk] at p2
  have I2 : Inv X pins σ H { s with heap := h2, toks := t' } := I1.hop p2 fun b hb => by rw [List.mem_singleton.mp hb]; exact o3
  have u := I2.base
  rw [ow.ex] at u
  exact ⟨a, cls, H, rfl, I2.os, I2.bare, u, I2.hok, ⟨T, r2, ⟨o1.h, o1.s0⟩, o3.h, o3.s0⟩, q⟩
end
/-- what is wanted of an exception here is that it lies behind the call as E wants -/
def XLink (X : Cx) (E : XK) : Prop := ∀ (e : Value) (s' : Shared), wpAny (model X.prog X.w) X.A (leaving X.env e) (fun _ s'' => CXE X.prog X.w X.outer X.H₀ X.s₀ E e s'') (fun e' s'' => CXE X.prog X.w X.outer X.H₀ X.s₀ E e' s'') s' → X.xe e s'
theorem XLink.passes {X : Cx} {E : XK} (l : XLink X E) (ow : OwnX X) : Passes (CXE X.prog X.w) X E := fun pins σ H s e s' I h => by
  obtain ⟨a, T, cls, H', rfl, I', r, o1, o2, q⟩ := I.raised ow.ex h
  exact l _ _ (I'.leave ow r o1 o2 q)
/-- what K tells of an own exception class -/
theorem exc_obj {K : PySem.W.Frag} {h : Heap} {C : Addr} {bmB : List Value} {newId : String} (X : K.In h) (q : PySem.W.excIn K C bmB newId = true) :
    ∃ bm N nm qn bs hd sn sub ab col dd k0 k1 k2 k3 k5 mN, h.get? C = some (excClassObj nm qn C N bs bm hd sn sub ab col dd k0 k1 k2 k3 k5 newId) ∧ h.Ns N mN ∧ mN "__init__" = none ∧ OwnTail h bmB bm := by
  unfold PySem.W.excIn at q
  split at q
  case h_2 => cases q
  case h_1 dd cd sl ho =>
    split at q
    case h_2 => cases q
    case h_1 C1 bm k0 k1 k2 k3 n k5 hm hs =>
      rw [Bool.and_eq_true, Bool.and_eq_true, Bool.and_eq_true, Bool.and_eq_true, Bool.and_eq_true] at q
      obtain ⟨⟨⟨⟨⟨q1, q2⟩, q3⟩, q4⟩, q5⟩, q6⟩ := q
      cases beq_iff_eq.mp q1
      cases beq_iff_eq.mp q2
      have q7 : cd.hasDel = false := by simpa using q3
      clear q3
      obtain ⟨f1, f2, f3, f4, f5, f6, f7, f8, f9, f10, f11⟩ := cd
      dsimp only at hm q7 q4 q5 q6
      subst hm q7
      obtain ⟨l⟩ := sl
      have hs : l = _ := hs
      subst hs
      exact ⟨bm, _, _, _, _, _, _, _, _, _, dd, k0, k1, k2, k3, k5, _, X _ _ ho, .of_isNs (PySem.W.isNs_of_in X q5), PySem.W.nsMap_none_of_in X q5 (beq_iff_eq.mp q6), PySem.W.tail_of_in X q4⟩
/-- raise C(e) -/
def tRaise (C : Addr) (E : XK) (ta : TA) : TS := fun _ σ H => ta σ H fun vs H1 => vs.length ≤ sizeLine ∧ E (.ref C) none H1
theorem ps_raise {X : Cx} {E : XK} {x : Str} {C : Addr} {B newId initId : String} {bmB : List Value} {np cpos pos : Pos} {a : Expr} {as : List Expr} {ta : TA} (l : XLink X E) (ow : OwnX X) (hc : X.calm = true) (FB : ExcBaseFacts B newId initId bmB) (hg : Gl X x) (hm : X.mg x = some (.ref C))
    (hq : PySem.W.excIn X.K C bmB newId = true) (ha : PA X (a :: as) ta) (hdb : (x == ("__debug__" : Str)) = false := by decide)
    (he : starEach (a :: as) X.env = (false, eval a X.env) :: starEach as X.env := by rfl) (hpl : (backTo cpos (starEach as X.env)).any (·.1) = false := by rfl) :
    PS X (.Raise (some (.Call (.Name x np) (a :: as) [] cpos)) none pos) (tRaise C E ta) := by
  intro pins s σ H D I h
  obtain ⟨bm, N, nm, qn, bs, hd, sn, sub, ab, col, dd, k0, k1, k2, k3, k5, mN, c1, c2, c3, c4⟩ := exc_obj (h := X.base) I.mod.kin hq
  refine wpAny_Raise_call_subT (C := C) (nm := nm) (q := qn) (N := N) (bs := bs) (bm := bm) (hdct := hd) (sn := sn) (sub := sub) (ab := ab) (col := col) (dd := dd) (k0 := k0) (k1 := k1) (k2 := k2) (k3 := k3) (k5 := k5) (mN := mN) FB (c4.hasType FB.hasBase) (I.ok.hd hc) ?_ c3 (ld_glob I hg hm ⟨rfl, ?_⟩ hdb)
  · rw [he]
    show (false || (backTo cpos (starEach as X.env)).any fun x => x.1) = false
    rw [hpl]; rfl
  · have p := ha cpos pins s σ H _ I h
    rw [he] at p ⊢
    refine Calls.evalArgs_plain (thn p fun us s1 ⟨vs, H1, I1, rv, hl, q⟩ => ⟨rfl, by rw [← rv.length]; exact hl, I1.bk _ _ c1, c2.keeps I1.bk, c4.keeps I1.bk, fun h' e m => ?_⟩)
    exact l _ _ (I1.leaveNew (t' := s1.toks) ow m q)
/-- the rule for a def, whatever leaves it -/
theorem Fun.okE {P : Program} {w : World} {K : PySem.W.Frag} {mg : Str → Option Value} {base : Heap} {CX : CXT} {x qual : Str} {st : Stmt} {f : Addr} {fd : FuncData} {N ps : List Str} {k : Nat} {sp : Sp} (F : Fun K x qual st f fd) (S : FnScope N ps (defScope st)) (len : ∀ vs H Q E, sp vs H Q E → vs.length = ps.length)
    (hb : ∀ (cdv : Value) (A : Around) (outer : List Env) (s : Shared) (H : Hp) (vs : List V) (Q : VK) (E : XK), Room k (A.deeper (envOfC qual (defScope st) s.heap.objs.size f cdv)) → sp vs H Q E →
      ∃ t, PSs (cxOf CX P w K mg base N qual (defScope st) f cdv A outer s H E) (defBody st) t ∧ t { nx := fun _ H' => Q .non H', rt := Q } (start N vs) H) : FnOk P w K mg base CX (k + 1) f fd ps sp := by
  obtain ⟨oc, od, kV, doc, pm, an, cdv, ct, osl, rfl, lk, hcd⟩ := F.ex
  exact fn_of lk hcd S len fun A outer s H vs Q E hr hsp => hb cdv A outer s H vs Q E hr hsp
end L2

set_option Elab.async false
set_option linter.all false
set_option maxRecDepth 100000
namespace L2
open PySem PySem.Spec PyProof.Rows
/-- a caught exception of the class at C -/
def excP (a C : Addr) (h : Heap) : Prop := ∃ o, h.get? a = some o ∧ o.cls = .ref C ∧ o.dict = none ∧ PySem.W.notCls o = true
def excO (a C : Addr) : HO := .ext (excP a C)
theorem Rec.exc {h : Heap} {e T C : Addr} {fl : Value} (r : Rec h e T (.ref C) fl) : excP e C h := by
  obtain ⟨oe, vs, _, _, ⟨a1, a2, a3, a4⟩, _⟩ := r
  exact ⟨oe, a1, a2, a3, by unfold PySem.W.notCls; rw [a4]⟩
theorem excP.ok {P : Program} {w : World} {H : Hp} {h : Heap} {a C : Addr} (x : excP a C h) : ObjOk P w H h a (excO a C) := by
  obtain ⟨o, e, r⟩ := id x
  exact ⟨x, ⟨o, e⟩, fun h1 h2 ⟨o, e, r⟩ k => ⟨o, k o e, r⟩⟩
section
variable {X : Cx} {pins : List (Addr × Obj)} {σ : St} {H : Hp} {s : Shared} {a : Addr} {u : HO}
theorem Inv.track (I : Inv X pins σ H s) (o : Out X pins H a) (ob : ObjOk X.prog X.w (upd H a u) s.heap a u) : Inv X pins σ (upd H a u) s := by
  have ne : ∀ b v, H b = some v → b ≠ a := fun b v q z => by rw [z, o.h] at q; cases q
  refine ⟨I.ok, I.os, I.bare, ⟨I.base.keep, I.base.slot, fun b v q n hx => ?_, I.base.there, fun b xs q => ?_, fun b v xs q => ?_, fun b ps q => ?_⟩, I.loc, I.cell, ?_, fun x c e => ?_, fun p hp => ?_, fun b v q => ?_, I.len⟩
  · rw [upd_ne (fun z => by rw [z, o.s0] at q; cases q)]; exact I.base.free b v q n hx
  · have r := I.base.tups b xs q; rw [upd_ne (ne b _ r)]; exact r
  · have r := I.base.frzs b v xs q; rw [upd_ne (ne b _ r)]; exact r
  · obtain ⟨m, r⟩ := I.base.tbls b ps q; exact ⟨m, by rw [upd_ne (ne b _ r)]; exact r⟩
  · rw [upd_ne (Ne.symm o.loc)]; exact I.free
  · rw [upd_ne (o.cell x c e)]; exact I.freeC x c e
  · obtain ⟨e, n, r⟩ := I.pin p hp
    exact ⟨e, by rw [upd_ne (o.pin p hp)]; exact n, r⟩
  · by_cases hb : b = a
    · subst hb; rw [upd_same] at q; cases q; exact ob
    · rw [upd_ne hb] at q
      exact (I.hok b v q).stay (fun c y _ r => r) (fun c r => by rw [upd_ne (ne c _ r)]; exact r) fun c xs r => by rw [upd_ne (ne c _ r)]; exact r
/-- the same body within an except suite -/
def Cx.marked (X : Cx) (e : Value) : Cx := { X with A := X.A.mark (some e), calm := false }
theorem Inv.marked (I : Inv X pins σ H s) (e : Value) : Inv (X.marked e) pins σ H s :=
  ⟨⟨I.ok.mod, I.ok.kind, I.ok.glob, I.ok.blt, I.ok.above, I.ok.inj, I.ok.has, I.ok.cab, (fun z => by cases z), I.ok.frames, I.ok.stk, I.ok.exf, I.ok.bs, I.ok.bsz, I.ok.noex, I.ok.exfs, I.ok.funs, I.ok.frf⟩, I.os, I.bare, I.base, I.loc, I.cell, I.free, I.freeC, I.pin, I.hok, I.len⟩
theorem Inv.unmarked {e : Value} {xe : Value → Shared → Prop} (ok : X.Ok) (I : Inv ((X.marked e).wish xe) pins σ H s) : Inv X pins σ H s :=
  ⟨ok, I.os, I.bare, I.base, I.loc, I.cell, I.free, I.freeC, I.pin, I.hok, I.len⟩
/-- a name goes -/
theorem Inv.unset {h' : Heap} {n : Str} {i : Nat} {t' : Nat} {v : Option Value} {m : Str → Option Value} (I : Inv X pins σ H s) (hi : X.N[i]? = some n) (ln : X.env.kindOf n = some .local) (hN : X.N.Nodup)
    (hm : s.heap.Ns X.env.locals m) (hl : ∀ (j : Nat) (x : Str) (v : V), X.N[j]? = some x → σ[j]? = some (some v) → Vis X.env.scope x → ∃ u, RelV v u ∧ Look X.env s.heap m x u)
    (h1 : h'.Ns X.env.locals (fun x => if x = n then v else m x)) (h2 : Heap.SameBut X.env.locals s.heap h') : Inv X pins (σ.set i none) H { s with heap := h', toks := t' } := by
  have k : ∀ b o, b ≠ X.env.locals → s.heap.get? b = some o → h'.get? b = some o := fun b o hb q => (h2.2 b hb).trans q
  have neL : ∀ b o, X.s₀.heap.get? b = some o → b ≠ X.env.locals := fun b o e => Nat.ne_of_lt (Nat.lt_of_lt_of_le (Heap.lt_size e) I.ok.above)
  have cellK : ∀ x c, X.env.cells.lookup x = some c → ∀ v, s.heap.IsCell c v → h'.IsCell c v := fun x c e v ⟨o, ho, hd⟩ => ⟨o, k c o (I.cne x c e) ho, hd⟩
  refine ⟨I.ok, I.os, I.bare, ⟨fun b o e n hb hx => k b o (neL b o e) (I.base.keep b o e n hb hx), fun b o e n hb hx => ?_, I.base.free, fun b o e hx => ?_, I.base.tups, I.base.frzs, I.base.tbls⟩, ⟨_, h1, fun j x u e1 e2 e3 => ?_⟩, fun x c e => ?_, I.free, I.freeC, fun p hq => ?_, fun b u e => ?_, by rw [List.length_set]; exact I.len⟩
  · obtain ⟨sl, e1⟩ := I.base.slot b o e n hb hx
    exact ⟨sl, k b _ (neL b o e) e1⟩
  · obtain ⟨o', e1⟩ := I.base.there b o e hx
    exact ⟨o', k b _ (neL b o e) e1⟩
  · by_cases hj : i = j
    · subst hj
      rw [List.getElem?_set] at e2
      simp at e2
    · rw [List.getElem?_set_ne hj] at e2
      obtain ⟨y, ry, l⟩ := hl j x u e1 e2 e3
      refine ⟨y, ry, ?_⟩
      rcases l with ⟨l1, l2⟩ | ⟨q, c, e, z⟩
      · refine .inl ⟨l1, ?_⟩
        show (if x = n then v else m x) = some y
        rw [if_neg fun z => hj (by subst z; exact nodup_ix hN hi e1)]
        exact l2
      · exact .inr ⟨q, c, e, cellK x c e _ z⟩
  · obtain ⟨v, z⟩ := I.cell x c e
    exact ⟨v, cellK x c e v z⟩
  · obtain ⟨e, n, ne, r⟩ := I.pin p hq
    exact ⟨k _ _ ne e, n, ne, r⟩
  · refine (I.hok b u e).stay (fun c y hc q => k c y (fun z => ?_) q) (fun _ q => q) fun _ _ q => q
    rcases hc with rfl | hc
    · rw [z, I.free] at e; cases e
    · rw [z, I.free] at hc; cases hc
end
/-- try: f(..)  except C as n: v = n -/
def tTry (K : PySem.W.Frag) (F : Value) (iv ie : Nat) (sp : Sp) (t : TA) : TS := fun D σ H => t σ H fun vs H1 => sp vs H1 (fun _ H' => D.nx σ H') fun cls _ H' =>
  ∃ C, cls = .ref C ∧ PySem.W.exmOne K (.ref C) F = some true ∧ ∀ a, H' a = none → D.nx (((σ.set ie (some (.ref a))).set iv (some (.ref a))).set ie none) (upd H' a (excO a C))
section
variable {X : Cx} {k : Nat} {f : Addr} {fd : FuncData} {ps : List Str} {sp : Sp} {x y n v : Str} {e : Expr} {es : List Expr} {t : TA} {F : Value} {iv ie : Nat} {p1 p2 p3 p4 p5 p6 p7 p8 pos : Pos}
theorem ps_try (ow : OwnX X) (FO : FnOk X.prog X.w X.K X.mg X.base (CXE X.prog X.w) k f fd ps sp) (hr : Room k X.A) (hg : Gl X x) (hm : X.mg x = some (.ref f)) (hk : PySem.W.keepIn X.K (.ref f) = true) (hb : Binds X.K fd ps [])
    (ha : ∀ xe, PA (X.wish xe) (e :: es) t) (hN : X.N.Nodup) (hv : X.N[iv]? = some v) (hn : X.N[ie]? = some n) (lv : X.env.scope.names.lookup v = some .local) (ln : X.env.scope.names.lookup n = some .local) (hy : Gl X y) (my : X.mg y = some F)
    (hdb : (x == ("__debug__" : Str)) = false := by decide) (hdy : (y == ("__debug__" : Str)) = false := by decide) (hdn : (n == ("__debug__" : Str)) = false := by decide)
    (he : starEach (e :: es) X.env = (false, eval e X.env) :: starEach es X.env := by rfl) (hpl : (backTo p2 (starEach es X.env)).any (·.1) = false := by rfl)
    (hs : swapsWith (.Call (.Name x p1) (e :: es) [] p2) none p3.line X.env = pure false := by rfl) (hs2 : swapsWith (.Name n p6) (some (.Name v p5)) p7.line X.env = pure false := by rfl)
    (hcd : (n == ("__classdict__" : Str)) = false := by decide) :
    PS X (.Try [.Expr (.Call (.Name x p1) (e :: es) [] p2) p3] [.ExceptHandler (some (.Name y p4)) (some n) [.Assign [.Name v p5] (.Name n p6) p7] p8] [] [] pos) (tTry X.K F iv ie sp t) := by
  intro pins s σ H D I h
  refine wpAny_Try_except (wpAny_execs_cons (wpAny_Expr_any ?_ I.quiet hs))
  refine wpAny_Call_Name_kw (ld_glob I hg hm ?_ hdb)
  refine PySem.W.callWith_K (h₀ := X.base) I.ok.mod.kin hk ?_ he hpl
  refine thn (ha (fun e s₁ => wpAny (model X.prog X.w) X.A (noteFrame e X.env) (fun _ s₂ => wpAny (model X.prog X.w) X.A (setFlight e none) (fun _ s₃ => wpAny (model X.prog X.w) X.A (handleBy e X.env [.ExceptHandler (some (.Name y p4)) (some n) [.Assign [.Name v p5] (.Name n p6) p7] p8]) (SP X pins D) X.xe s₃) X.xe s₂) X.xe s₁) p2 pins s σ H _ (I.wish _) h) ?_
  rintro us s1 ⟨vs, H1, I1, r, q⟩
  refine ⟨I1.unwish.kIn, ?_⟩
  have I1 := I1.unwish
  have hl : us.length = ps.length := by rw [← r.length]; exact FO.len _ _ _ _ q
  have hb1 := hb s1 us I1.kIn (by rw [List.append_nil]; exact hl)
  rw [List.append_nil] at hb1
  refine wpAny_call (codeAny_mono (FO.run X.A X.stack s1 H1 ⟨us, []⟩ us vs _ _ hr I1.env0 hb1 r q) fun r s' hq => ?_)
  cases r with
  | ok fl =>
    cases fl with
    | ret u =>
      obtain ⟨v', H', I', _, q'⟩ := I1.after hq
      exact wpAny_execs_nil (wpAny_execs_nil ⟨σ, H', I', q'⟩)
    | next => exact False.elim hq
    | brk => exact False.elim hq
    | cont => exact False.elim hq
  | error ev =>
    unfold CR at hq
    dsimp only at hq ⊢
    obtain ⟨a, T, cls, H', rfl, I', rc, o1, o2, C, rfl, hx, q'⟩ := I1.raised ow.ex hq
    refine note_next (base := X.base) (outer := X.outer) (by rw [← ow.stk]; exact I'.ok.frames) (by rw [← ow.stk]; exact I'.stack) ow.fr rc fun h1 T' n1 r1 g1 => ?_
    have o3 := I'.out ow.ex n1
    rw [← ow.stk] at g1
    have I1 : Inv X pins σ H' { s' with heap := h1, toks := s'.toks } := I'.hop g1 fun b hb => by
      rcases List.mem_cons.mp hb with rfl | hb
      · exact o2
      · rw [List.mem_singleton.mp hb]; exact o1
    refine land (env := X.env) (outer := X.outer) (s := { s' with heap := h1 }) r1 fun h2 r2 g2 => ?_
    rw [← ow.stk] at g2
    have I2 : Inv X pins σ H' { s' with heap := h2, toks := s'.toks } := I1.hop g2 fun b hb => by rw [List.mem_singleton.mp hb]; exact o3
    refine wpAny_handleBy_cons (codeAny_handlers_test (ld_glob (X := X.marked (.ref a)) (I2.marked _) hy my ?_ hdy)) (by intro z; cases z)
    have LT : PySem.W.Looks (model X.prog X.w) h2 (typeOf (.ref a)) (.ref C) := by
      obtain ⟨o, e1, e2, _⟩ := r2.exc
      exact e2 ▸ (PySem.W.Looks.ld e1).andThen .now
    refine PySem.W.Looks.at (PySem.W.exm_one (M := model X.prog X.w) I2.kIn LT hx) ?_
    refine codeAny_handlers_suite_as (land (env := X.env) (outer := X.outer) (s := { s' with heap := h2 }) r2 fun h3 r3 g3 => ?_)
    rw [← ow.stk] at g3
    have I3 : Inv X pins σ H' { s' with heap := h3, toks := s'.toks } := I2.hop g3 fun b hb => by rw [List.mem_singleton.mp hb]; exact o3
    have I4 := I3.track (u := excO a C) o1 r3.exc.ok
    refine store_ok (X := X.marked (.ref a)) (v := .ref a) (I4.marked (.ref a)) hN hn (.inl ln) rfl (fun s5 I5 => ?_) (.inr ln)
    have body : PSs ((X.marked (.ref a)).wish fun _ _ => False) [.Assign [.Name v p5] (.Name n p6) p7] (tAsg (tVar ie) (gName iv)) := pss_one (ps_set hN hv (.inl lv) (pe_var hn (.inl ln) hdn hcd) hs2 (.inr lv))
    have hlen : ie < σ.length := by rw [I.len]; exact (List.getElem?_eq_some_iff.mp hn).1
    refine wpAny_mono (body pins s5 _ _ { nx := fun σ' H2 => σ' = (σ.set ie (some (.ref a))).set iv (some (.ref a)) ∧ H2 = upd H' a (excO a C), rt := fun _ _ => False } (I5.wish _) ⟨.ref a, by rw [List.getElem?_set_self hlen], rfl, rfl⟩) (fun fl s6 h6 => ?_) fun _ _ z => z.elim
    cases fl with
    | ret u => obtain ⟨_, _, _, _, _, z⟩ := h6; exact z.elim
    | brk => obtain ⟨_, _, _, z⟩ := h6; exact z.elim
    | cont => obtain ⟨_, _, _, z⟩ := h6; exact z.elim
    | next =>
      obtain ⟨σ', H2, I6, rfl, rfl⟩ := h6
      have I6 := I6.unmarked I.ok
      obtain ⟨m, hm6, hl6⟩ := I6.loc
      refine wpAny_nameGoes_keeps (show X.env.kindOf n = some .local from ln) hm6 (by rw [I.ok.kind]; rfl) fun h7 w7 e7 b7 => ?_
      exact ⟨_, _, I6.unset hn ln hN hm6 hl6 e7 b7, q' a o1.h⟩
end
/-- isinstance of a caught exception -/
structure ExcK (K : PySem.W.Frag) (C : Addr) : Prop where
  ga : PySem.W.findIn K (.ref C) "__getattribute__" = some (some (.builtin "BaseException.__getattribute__"))
  gk : PySem.W.findIn K (.ref C) "__getattr__" = some none
  hd : PySem.W.hasDictIn K C = true
  ca : PySem.W.findIn K (.ref C) "__class__" = some (some (.builtin "object.__class__"))
  sp : PySem.W.specialIn K (.builtin "object.__class__") "__get__" = some (some (.builtin "getset_descriptor.__get__"))
  tk : PySem.W.takesIn K (.builtin "object.__class__") = some true
  mro : PySem.W.mroIn K C (.type "object") = some true
  mrb : PySem.W.mroIn K C (.type "BaseException") = some true
theorem exc_class {K : PySem.W.Frag} {prog : Program} {w : World} {A : Around} {E : Value → Shared → Prop} {Q : Option Value → Shared → Prop} {s : Shared} {x C : Addr} {ox : Obj} (k : ExcK K C) (X : K.In s.heap) (I : PySem.W.InstAt s.heap x ox C none) (q : Q (some (.ref C)) { s with toks := s.toks + 1 }) :
    wpAny (model prog w) A (getAttr? (.ref x) "__class__") Q E s := by
  obtain ⟨hh, g, d, t, os⟩ := s
  have hf : PySem.W.findObj K C none "__class__" = some (.bind (.builtin "getset_descriptor.__get__") (.builtin "object.__class__")) := by
    obtain ⟨cd, hc, _⟩ := PySem.W.any_some k.hd
    unfold PySem.W.findObj
    rw [hc, Option.bind_some, k.ca, Option.bind_some]
    dsimp only
    rw [k.sp, Option.bind_some]
    dsimp only
    rw [k.tk, Option.bind_some]
  have L0 := I.type (M := model prog w)
  have L1 := PySem.W.looks_findIn (M := model prog w) X k.ga
  have L2 := PySem.W.looks_findIn (M := model prog w) X k.gk
  have L3 := PySem.W.looks_find (M := model prog w) X I hf
  have L4 : PySem.W.Looks (model prog w) hh (isInstance (.ref x) (.type "BaseException")) true := L0.andThen (PySem.W.looks_mroIn (M := model prog w) X k.mrb)
  unfold getAttr? getAttrBy? getAttrBy
  refine wpAny_bind (wpAny_mkText (wpAny_bind (wpAny_attempt (wpAny_holding (wpAny_bind (L0.at (wpAny_bind (L1.at ?_))))))))
  dsimp only
  have ne : (Value.builtin "BaseException.__getattribute__" == Value.builtin "object.__getattribute__") = false := by decide +kernel
  rw [ne, Bool.and_false, if_neg Bool.false_ne_true]
  unfold getAttrByItsOwn hookBefore
  rw [if_pos (show onTheHeap (Value.ref C) = true from rfl)]
  refine wpAny_bind (L2.at (wpAny_bind (wpAny_attempt (wpAny_holding ?_))))
  show wpAny _ _ (boundAndCalled _ _ _) _ _ _
  unfold boundAndCalled
  rw [PySem.F.attr_ValueError.ga.bind (.ref x)]
  refine wpAny_bind (wpAny_pure (wpAny_call (codeAny_call_builtin PySem.F.attr_ValueError.ga.plain PySem.F.entry_bexc_ga ?_)))
  have hk : builtinKind "BaseException.__getattribute__" = some .slot := by decide +kernel
  have hs : splitId "BaseException.__getattribute__" = some ("BaseException", "__getattribute__") := by decide +kernel
  have ha := PySem.F.args_bexc_ga (.ref x) (.str "__class__" t)
  simp only [checkBuiltinCall, hk, hs]
  refine wpAny_bind (L4.at ?_)
  repeat (any_goals (first | assumption | wp_step))
  refine wpAny_loadPart_at I.at_ (wpAny_pure ?_)
  rw [I.cls]
  refine wpAny_bind (L3.at ?_)
  dsimp only
  unfold Builtin.ObjectAttr.bindTo
  dsimp only
  refine wpAny_bind (wpAny_holding (wpAny_call (PySem.W.class_get (ox := ox) (od := none) X I k.mro (wpAny_pure ?_))))
  exact PySem.W.handed_on rfl (wpAny_pure q)
theorem excP.inst {a C : Addr} {h : Heap} (x : excP a C h) : ∃ ox, PySem.W.InstAt h a ox C none := by
  obtain ⟨o, e, e1, e2, e3⟩ := x
  exact ⟨o, e, e1, e3, by rw [e2]; trivial⟩
theorem kitx_exc {K : PySem.W.Frag} {a C : Addr} (k : ExcK K C) : PySem.W.KitX K (.ref a) (.ref C) (excP a C) where
  ty := fun _ _ _ x => let ⟨_, I⟩ := x.inst; I.type
  it := fun M h X x => by
    obtain ⟨cd, z, _⟩ := PySem.W.any_some k.hd
    unfold PySem.W.clsIn at z
    split at z
    case h_2 => cases z
    case h_1 ho =>
      intro A Q E s kk q
      unfold isType loadHead
      exact wpAny_bind (wpAny_loadPart (kk _ _ (X _ _ ho)) (wpAny_pure q))
  ne := fun h tp dd its m sl X htp => by
    refine Bool.eq_false_iff.mpr fun q => ?_
    cases Value.ref.inj (beq_iff_eq.mp q)
    obtain ⟨cd, z, _⟩ := PySem.W.any_some k.hd
    unfold PySem.W.clsIn at z
    split at z
    case h_2 => cases z
    case h_1 ho => cases (X _ _ ho).symm.trans htp
  ca := fun {prog w A E Q s} X x q => by
    obtain ⟨ox, I⟩ := x.inst
    exact exc_class k X I q
def rIsE (K : PySem.W.Frag) : List V → Hp → VK → Prop := fun xs H Q => ∃ a C c u b, xs = [.ref a, c] ∧ H a = some (excO a C) ∧ ExcK K C ∧ RelV c u ∧ PySem.W.kitOne K (.ref C) u = some b ∧ Q (.bl b) H
theorem call_isE {X : Cx} {K : PySem.W.Frag} (h : X.K = K) : CallR X (.builtin "isinstance") (rIsE K) := by
  subst h
  intro pins s σ H xs us Q I r h
  obtain ⟨a, C, c, u, b, rfl, ea, k, rc, e, q⟩ := h
  cases r with
  | cons r1 r =>
    cases r with
    | cons r2 r =>
      cases r
      cases (show _ = Value.ref a from r1)
      have hu : ∀ {u' : Value}, RelV c u' → PySem.W.kitOne X.K (.ref C) u = some b → u' = u := fun {u'} r' e => by
        cases c with
        | ref d => exact (show u' = Value.ref d from r').trans (show u = Value.ref d from rc).symm
        | ty d => exact (show u' = Value.type d from r').trans (show u = Value.type d from rc).symm
        | non => cases (show u = Value.none from rc); cases e
        | bl b => cases (show u = Value.bool b from rc); cases e
        | int i => obtain ⟨t, z⟩ := (show ∃ t, u = Value.int i t from rc); cases z; cases e
        | str i => obtain ⟨t, z⟩ := (show ∃ t, u = Value.str i t from rc); cases z; cases e
        | byt i => obtain ⟨t, z⟩ := (show ∃ t, u = Value.bytes i t from rc); cases z; cases e
        | flt i => obtain ⟨t, z⟩ := (show ∃ t, u = Value.float i t from rc); cases z; cases e
      rw [hu r2 e]
      obtain ⟨x, _, _⟩ := (show ObjOk X.prog X.w H s.heap a (excO a C) from I.hok a _ ea)
      exact PySem.W.kia_one (kitx_exc k) I.kIn x e (fun z => nomatch z) fun tk => ⟨.bl b, H, I.tok _, rfl, q⟩
end L2

set_option Elab.async false
set_option linter.all false
set_option maxRecDepth 100000
namespace L2
open PySem PySem.Spec PyProof.Rows
/-! texts of parts -/
/-- the written values of an f-string, one after another -/
def tFs : List TE → St → Hp → (Hp → Prop) → Prop
  | [], _, H, R => R H
  | t :: ts, σ, H, R => t σ H fun x H1 => ∃ i, x = .int i ∧ i.natAbs.log2 < 1920 ∧ tFs ts σ H1 R
def tJoin (ts : List TE) : TE := fun σ H Q => tFs ts σ H fun H' => ∀ x, Q (.str x) H'
inductive PParts (X : Cx) : List Expr → List TE → Prop
  | nil : PParts X [] []
  | text {x : Str} {j p es ts} (hx : x.length ≤ 1000) (h : PParts X es ts) : PParts X (.Constant (.str x) j p :: es) ts
  | val {e : Expr} {p es ts} {t : TE} (he : PE X e t) (h : PParts X es ts) : PParts X (.FormattedValue e (-1) none p :: es) (t :: ts)
theorem joins {X : Cx} {es : List Expr} {ts : List TE} (h : PParts X es ts) : ∀ (out : Str) (pins : List (Addr × Obj)) (s : Shared) (σ : St) (H : Hp) (Q : VK), out.length + 2000 * es.length ≤ sizeLine → Inv X pins σ H s → tFs ts σ H (fun H' => ∀ x, Q (.str x) H') →
    wpAny (model X.prog X.w) X.A (joinParts out (evalEach es X.env)) (EP X pins σ Q) X.xe s := by
  induction h with
  | nil =>
    intro out pins s σ H Q hl I q
    exact joinParts_nil ⟨.str out, H, I.tok _, ⟨_, rfl⟩, q out⟩ (by simpa using hl)
  | @text x j p es ts hx h ih =>
    intro out pins s σ H Q hl I q
    rw [List.length_cons] at hl
    refine joinParts_cons (Calls.Constant_str ⟨?_, ih _ _ _ σ H Q ?_ (I.tok _) q⟩)
    · rw [PySem.strLen_append]; omega
    · rw [PySem.strLen_append]; omega
  | @val e p es ts t he h ih =>
    intro out pins s σ H Q hl I q
    rw [List.length_cons] at hl
    refine joinParts_cons (FormattedValue_plain (thn (he pins s σ H _ I q) fun u s1 ⟨x, H1, I1, r1, i, hx, hi, q1⟩ => ?_))
    subst hx
    obtain ⟨tk, rfl⟩ := r1
    have e := int_text_length_le (k := 1920) (by decide) hi
    have e2 : (Str.ofString (toString i)).length ≤ 1921 := by rw [PySem.ofString_length]; exact e
    refine formatField_int_small hi ⟨?_, ih _ _ _ σ H1 Q ?_ (I1.tok _) q1⟩
    · show (out ++ Str.ofString (toString i)).length ≤ sizeLine
      rw [PySem.strLen_append]; omega
    · show (out ++ Str.ofString (toString i)).length + _ ≤ sizeLine
      rw [PySem.strLen_append]; omega
theorem pe_join {X : Cx} {a b : Expr} {es : List Expr} {ts : List TE} {pos : Pos} (h : PParts X (a :: b :: es) ts) (hl : es.length ≤ 1000 := by decide) : PE X (.JoinedStr (a :: b :: es) pos) (tJoin ts) := fun pins s σ H Q I q =>
  JoinedStr_many (joins h Str.empty pins s σ H Q (by
    have hz : sizeLine = 16777216 := sizeLine_eq
    have e : (Str.empty).length = 0 := rfl
    rw [e, hz, List.length_cons, List.length_cons]; omega) I q)
theorem bt_ValueError : bootBuiltins "ValueError" = some (.type "ValueError") := by decide +kernel
end L2
namespace VL
open PySem L2
open Classical
noncomputable section
variable {K : PySem.W.Frag}
/-- what a def that raises promises -/
def spX (K : PySem.W.Frag) (ms : List Bool) (C : Addr) (F : List D → Option D) : Sp := fun vs H _ E => ∃ (Z : Addr → Prop) (ds : List D) (d : D), (∀ a, Z a → ∃ o, H a = some o) ∧ Args K H Z ms vs ds ∧ F ds = some d ∧ ∀ H', Same H H' → E (.ref C) none H'
theorem Fun.okX {P : Program} {w : World} {mg : Str → Option Value} {base : Heap} {x qual : Str} {st : Stmt} {f C : Addr} {fd : FuncData} {N ps : List Str} {k : Nat} (F : Fun K x qual st f fd) (S : FnScope N ps (defScope st)) (ms : List Bool) (hms : ms.length = ps.length) (b : DS)
    (hbody : ∀ (cdv : Value) (A : Around) (outer : List Env) (s : Shared) (H : Hp) (E : XK), Room k (A.deeper (PyProof.Rows.envOfC qual (defScope st) s.heap.objs.size f cdv)) →
      ∃ t, PSs (cxOf (CXE P w) P w K mg base N qual (defScope st) f cdv A outer s H E) (defBody st) t ∧ SemS (.x E C) K t b) : FnOk P w K mg base (CXE P w) (k + 1) f fd ps (spX K ms C (runF N.length ms b)) := by
  refine F.okE S (fun vs H Q E h => ?_) (fun cdv A outer s H vs Q E hr h => ?_)
  · obtain ⟨Z, ds, d, hz, a, _⟩ := h
    rw [a.len.1, hms]
  · obtain ⟨Z, ds, d, hz, a, e, k⟩ := h
    obtain ⟨t, h1, h2⟩ := hbody cdv A outer s H E hr
    refine ⟨t, h1, h2 (startFr hz a) ?_⟩
    unfold runF at e
    split at e
    · rename_i d' e1
      cases e
      rw [e1]
      exact k
    · cases e
variable {E : XK} {C : Addr}
/-- the statement raises -/
@[irreducible] def sX (x : DE) : DS := fun ρ => match x ρ with
  | some d => .rt d
  | none => .no
theorem sx_call {ms : List Bool} {F : List D → Option D} {t : TA} {es : Rho → Option (List D)} (ha : SemA K ms t es) {B : Hp} {Z : Addr → Prop} {os : Own} {ρ : Rho} {σ : L2.St} {H : Hp} {d : D} (f : Fr K B Z os ρ σ H) (q : dCall F es ρ = some d) (p : ∀ H', Same B H' → E (.ref C) none H') (Q : VK) :
    tCall (spX K ms C F) [] E t σ H Q := by
  unfold dCall at q
  split at q
  · rename_i ds e
    refine ha f e fun vs H1 s1 a => ?_
    show spX K ms C F (vs ++ []) H1 Q E
    rw [List.append_nil]
    exact ⟨tot Z os, ds, d, (f.grow s1).tin, a, q, fun H2 s2 => p H2 (f.keep.trans (s1.trans s2))⟩
  · cases q
theorem ss_xdrop {ms : List Bool} {F : List D → Option D} {t : TA} {es : Rho → Option (List D)} (ha : SemA K ms t es) : SemS (.x E C) K (tDrop (tCall (spX K ms C F) [] E t)) (sX (dCall F es)) := fun {B Z os ρ σ H En} f p => by
  unfold sX at p
  split at p
  · rename_i d e; exact sx_call ha f e p _
  · exact p.elim
theorem ss_xset {ms : List Bool} {F : List D → Option D} {t : TA} {es : Rho → Option (List D)} {g : TG} (ha : SemA K ms t es) : SemS (.x E C) K (tAsg (tCall (spX K ms C F) [] E t) g) (sX (dCall F es)) := fun {B Z os ρ σ H En} f p => by
  unfold sX at p
  split at p
  · rename_i d e; exact sx_call ha f e p _
  · exact p.elim
/-- the parts of the text are ints that can be written -/
def fmtD : List DE → Rho → Bool
  | [], _ => true
  | a :: as, ρ => match a ρ with
    | some (.int i) => decide (i.natAbs.log2 < 1920) && fmtD as ρ
    | _ => false
inductive SemJ (K : PySem.W.Frag) : List TE → List DE → Prop
  | nil : SemJ K [] []
  | cons {t ts a as} (h : SemB K t a) (r : SemJ K ts as) : SemJ K (t :: ts) (a :: as)
theorem semJ {ts : List TE} {as : List DE} (h : SemJ K ts as) : ∀ {B : Hp} {Z : Addr → Prop} {os : Own} {ρ : Rho} {σ : L2.St} {H : Hp} {R : Hp → Prop}, Fr K B Z os ρ σ H → fmtD as ρ = true → (∀ H', Same H H' → R H') → tFs ts σ H R := by
  induction h with
  | nil => intro B Z os ρ σ H R f _ k; exact k H (Same.refl _)
  | @cons t ts a as h r ih =>
    intro B Z os ρ σ H R f q k
    unfold fmtD at q
    split at q
    · rename_i i e
      rw [Bool.and_eq_true] at q
      exact h f e fun v H1 s1 i1 => ⟨i, i1.isInt, of_decide_eq_true q.1, ih (f.grow s1) q.2 fun H' s2 => k H' (s1.trans s2)⟩
    · cases q
@[irreducible] def sRaise (as : List DE) : DS := fun ρ => if fmtD as ρ = true then .rt .non else .no
theorem ss_raiseJ {ts : List TE} {as : List DE} (h : SemJ K ts as) : SemS (.x E C) K (tRaise C E (tCons (tJoin ts) tNil)) (sRaise as) := fun {B Z os ρ σ H En} f p => by
  unfold sRaise at p
  split at p
  · rename_i q
    exact semJ h f q fun H1 s1 x => ⟨by have := sizeLine_eq; show 1 ≤ sizeLine; omega, p H1 (f.keep.trans s1)⟩
  · exact p.elim
/-! reading -/
theorem wp_x {x : DE} {ρ : Rho} {d : D} {W : Wk} (h : x ρ = some d) (k : W.rt d) : Wp (sX x) ρ W := by unfold Wp sX; rw [h]; exact k
theorem wp_raise {as : List DE} {ρ : Rho} {W : Wk} (h : fmtD as ρ = true) (k : W.rt .non) : Wp (sRaise as) ρ W := by unfold Wp sRaise; rw [if_pos h]; exact k
theorem fmt_nil {ρ : Rho} : fmtD [] ρ = true := rfl
theorem fmt_cons {a : DE} {as : List DE} {ρ : Rho} {i : Int} (h : a ρ = some (.int i)) (hi : i.natAbs.log2 < 1920) (r : fmtD as ρ = true) : fmtD (a :: as) ρ = true := by
  unfold fmtD
  rw [h]
  simp [hi, r]
/-! what was caught is asked for its class -/
theorem same_new {H : Hp} {a : Addr} {o : HO} (h : H a = none) : Same H (upd H a o) := fun b u e => by rw [upd_ne (ne_of_none e h)]; exact e
def XE (iv : Nat) (C : Addr) (t : TE) (b : Bool) : Prop := ∀ {σ : L2.St} {H : Hp} {a : Addr} {Q : VK}, σ[iv]? = some (some (.ref a)) → H a = some (excO a C) → (∀ H', Same H H' → Q (.bl b) H') → t σ H Q
def XT (iv : Nat) (C : Addr) (t : TT) (b : Bool) : Prop := ∀ {σ : L2.St} {H : Hp} {a : Addr} {Q : Bool → Hp → Prop}, σ[iv]? = some (some (.ref a)) → H a = some (excO a C) → (∀ H', Same H H' → Q b H') → t σ H Q
def XS (iv : Nat) (C : Addr) (t : TS) : Prop := ∀ {σ : L2.St} {H : Hp} {a : Addr} {En : Ends}, σ[iv]? = some (some (.ref a)) → H a = some (excO a C) → (∀ H', Same H H' → En.rt (.bl true) H') → t En σ H
variable {iv ie : Nat}
theorem xe_is {c : V} {u : Value} {b : Bool} (k : ExcK K C) (r : RelV c u) (e : PySem.W.kitOne K (.ref C) u = some b) : XE iv C (tCB (rIsE K) (tCons (tVar iv) (tCons (tC c) tNil))) b := fun {σ H a Q} s h q =>
  ⟨.ref a, s, a, C, c, u, b, rfl, h, k, r, e, q H (Same.refl _)⟩
theorem xt_tru {t : TE} {b : Bool} (h : XE iv C t b) : XT iv C (fun σ H Q => t σ H fun x H' => ∃ k, TruV K x H' k ∧ Q k H') b := fun s e q => h s e fun H' s' => ⟨b, rfl, q H' s'⟩
theorem xt_or {t u : TT} {b : Bool} (h1 : XT iv C t false) (h2 : XT iv C u b) : XT iv C (tOr t u) b := fun s e q => h1 s e fun H1 s1 => iteF (h2 s (s1 _ _ e) fun H2 s2 => q H2 (s1.trans s2))
theorem xe_and {t u : TE} {b : Bool} (h1 : XE iv C t true) (h2 : XE iv C u b) : XE iv C (tAndV t u) b := fun s e q => h1 s e fun H1 s1 => ⟨true, rfl, iteT (h2 s (s1 _ _ e) fun H2 s2 => q H2 (s1.trans s2))⟩
theorem xs_if {c : TT} {t r : TS} (h1 : XT iv C c false) (h2 : XS iv C r) : XS iv C (tSeq (tIfS c t tNext) r) := fun s e q => h1 s e fun H1 s1 => iteF (h2 s (s1 _ _ e) fun H2 s2 => q H2 (s1.trans s2))
theorem xs_ret {t : TE} (h : XE iv C t true) : XS iv C (tRet t) := fun s e q => h s e q
@[irreducible] def sRefused (iv : Nat) (x : DE) : DS := fun ρ => if iv < ρ.length then (match x ρ with
  | some _ => .rt (.bl true)
  | none => .no) else .no
theorem ss_refused {ms : List Bool} {F : List D → Option D} {t : TA} {r : TS} {es : Rho → Option (List D)} {Fl : Value} (ha : SemA K ms t es) (hF : PySem.W.exmOne K (.ref C) Fl = some true) (hne : ie ≠ iv) (hr : XS iv C r) :
    SemS .v K (tSeq (tTry K Fl iv ie (spX K ms C F) t) r) (sRefused iv (dCall F es)) := fun {B Z os ρ σ H En} f p => by
  unfold sRefused at p
  split at p
  case isFalse => exact p.elim
  case isTrue hi =>
    cases e : dCall F es ρ with
    | none => rw [e] at p; exact p.elim
    | some d =>
      rw [e] at p
      unfold dCall at e
      split at e
      · rename_i ds e1
        refine ha f e1 fun vs H1 s1 a => ⟨tot Z os, ds, d, (f.grow s1).tin, a, e, fun H2 s2 => ⟨C, rfl, hF, fun x hx => hr (a := x) ?_ upd_same fun H3 s3 => ?_⟩⟩
        · rw [List.getElem?_set_ne hne, List.getElem?_set_self (by rw [List.length_set, f.len]; exact hi)]
        · exact p (.bl true) H3 (f.keep.trans (s1.trans (s2.trans ((same_new hx).trans s3)))) (.bl true)
      · cases e
theorem wp_refused {x : DE} {ρ : Rho} {d : D} {W : Wk} (hi : iv < ρ.length) (h : x ρ = some d) (k : W.rt (.bl true)) : Wp (sRefused iv x) ρ W := by
  unfold Wp sRefused
  rw [if_pos hi, h]
  exact k
end
end VL

set_option Elab.async false
set_option linter.all false
set_option maxRecDepth 100000
namespace VL
open PySem L2
open Classical
noncomputable section
variable {K : PySem.W.Frag} {fr : Fm}
/-- all slots but these are as they were -/
def Ag (is : List Nat) (σ σ' : L2.St) : Prop := σ'.length = σ.length ∧ ∀ j, j ∉ is → σ'[j]? = σ[j]?
theorem Ag.refl {is : List Nat} {σ : L2.St} : Ag is σ σ := ⟨rfl, fun _ _ => rfl⟩
theorem Ag.set {is : List Nat} {σ σ' : L2.St} {i : Nat} {v : Option V} (h : Ag is σ σ') (hi : i ∈ is) : Ag is σ (σ'.set i v) :=
  ⟨by rw [List.length_set]; exact h.1, fun j hj => by rw [List.getElem?_set_ne fun z => hj (by rw [← z]; exact hi)]; exact h.2 j hj⟩
theorem Ag.two {r n : Nat} {σ σ' : L2.St} (h : Ag [r, n] σ σ') : σ' = (σ.set r (σ'[r]?).join).set n (σ'[n]?).join := by
  refine List.ext_getElem? fun j => ?_
  by_cases hn : j = n
  · subst hn
    by_cases hl : j < σ.length
    · rw [List.getElem?_set_self (by rw [List.length_set]; exact hl), List.getElem?_eq_getElem (by rw [h.1]; exact hl)]; rfl
    · rw [List.getElem?_eq_none (by rw [h.1]; omega), List.getElem?_eq_none (by rw [List.length_set, List.length_set]; omega)]
  · rw [List.getElem?_set_ne (Ne.symm hn)]
    by_cases hr : j = r
    · subst hr
      by_cases hl : j < σ.length
      · rw [List.getElem?_set_self hl, List.getElem?_eq_getElem (by rw [h.1]; exact hl)]; rfl
      · rw [List.getElem?_eq_none (by rw [h.1]; omega), List.getElem?_eq_none (by rw [List.length_set]; omega)]
    · rw [List.getElem?_set_ne (Ne.symm hr)]
      exact h.2 j (by simp [hn, hr])
theorem Ag.at {is : List Nat} {σ σ' : L2.St} {i : Nat} {v : V} (h : Ag is σ σ') (hi : i ∉ is) (e : σ[i]? = some (some v)) : σ'[i]? = some (some v) := by rw [h.2 i hi]; exact e
/-! reading -/
end
end VL

set_option Elab.async false
set_option linter.all false
set_option maxRecDepth 100000
/-! ### sorted: the library's tree of questions ends sorted -/
namespace Srt
open PySem PySem.W PyProof.Rows
/-- the tree run by an order: every question is of two places below n, the end is as wanted -/
def KOk {α : Type} (lt : Nat → Nat → Bool) (n : Nat) : KasT α → (α → Prop) → Prop
  | .ret a, Q => Q a
  | .ask i j k, Q => i < n ∧ j < n ∧ KOk lt n (k (lt i j)) Q
section
variable {lt : Nat → Nat → Bool} {N : Nat}
theorem KOk.bind {α β : Type} {f : α → KasT β} {Q : β → Prop} : ∀ (t : KasT α), KOk lt N t (fun a => KOk lt N (f a) Q) → KOk lt N (t.bind f) Q
  | .ret _, h => h
  | .ask _ _ k, h => ⟨h.1, h.2.1, KOk.bind (k _) h.2.2⟩
theorem KOk.mono {α : Type} {Q Q' : α → Prop} (hq : ∀ a, Q a → Q' a) : ∀ (t : KasT α), KOk lt N t Q → KOk lt N t Q'
  | .ret a, h => hq a h
  | .ask _ _ k, h => ⟨h.1, h.2.1, KOk.mono hq (k _) h.2.2⟩
theorem KOk.wp {α : Type} {cmp : Nat → Nat → (Bool → Shared → Prop) → Shared → Prop} {s : Shared} (hc : ∀ i j (C : Bool → Shared → Prop), i < N → j < N → C (lt i j) s → cmp i j C s) {Q : α → Shared → Prop} :
    ∀ (t : KasT α), KOk lt N t (fun a => Q a s) → t.kasWp cmp Q s
  | .ret _, h => h
  | .ask i j k, h => hc i j _ h.1 h.2.1 (KOk.wp hc (k _) h.2.2)
/-- a weak order -/
structure Ord (lt : Nat → Nat → Bool) : Prop where
  tr : ∀ a b c, lt b a = false → lt c b = false → lt c a = false
  as : ∀ a b, lt a b = true → lt b a = false
abbrev g (p : Array Nat) (i : Nat) : Nat := p.getD i 0
end
end Srt

set_option Elab.async false
set_option linter.all false
set_option maxRecDepth 100000
/-! sorted: a list of tuples of ints -/
namespace L2
open PySem PySem.Spec PyProof.Rows
section
variable {X : Cx} {pins : List (Addr × Obj)} {σ : St} {H : Hp} {s : Shared}
end
section
open PySem.W
variable {prog : Program} {w : World} {A : Around} {E : Value → Shared → Prop} {s : Shared} {a : Addr} {n : Nat} {vs : List Value}
end
end L2

set_option Elab.async false
set_option linter.all false
set_option maxRecDepth 100000
namespace L2
open PySem PySem.Spec PyProof.Rows
/-! tuples of ints in their order -/
end L2
namespace VL
open PySem L2
open Classical
noncomputable section
variable {K : PySem.W.Frag}
/-! the sweep: last_ends = {}; for begin, end, owner in ..: if begin < last_ends.get(owner, 0): return False; last_ends[owner] = end; return True -/
end
end VL

set_option Elab.async false
set_option linter.all false
set_option maxRecDepth 100000
/-! an exception out of a comprehension's element -/
namespace L2
open PySem PySem.Spec PyProof.Rows
section
variable {M : Model} {A : Around} {E : Value → Shared → Prop} {s : Shared} {base : Heap} {env : Env} {outer : List Env} {L e T : Addr} {cls fl : Value} {Q : Unit → Shared → Prop}
/-- a frame, whatever the mark -/
theorem note_any (h1 : A.frames = some (env :: outer)) (h2 : s.heap.FunFrames base (env :: outer)) (h3 : env.frame = some L) (r : Rec s.heap e T cls fl) (hf : (fl == rawInt L) = false)
    (q : ∀ h' T', s.heap.get? T' = none → Rec h' e T' cls (rawInt L) → Hop (frs (env :: outer)) [T, e] s.heap h' → Q () { s with heap := h' }) : wpAny M A (noteFrame (.ref e) env) Q E s := by
  obtain ⟨oe, vs, oT, ts, ⟨a1, a2, a3, a4⟩, b1, ne, b2, b3, b4⟩ := r
  subst a2
  unfold noteFrame
  simp only [h3]
  refine wpAny_bind (wpAny_field a1 a4 b1 ?_)
  rw [if_pos (by simp)]
  refine wpAny_bind (wpAny_field b2 b3 b4 ?_)
  rw [hf, if_neg Bool.false_ne_true]
  refine wpAny_bind (wpAny_setField b2 b3 (Array.getElem?_eq_some_iff.mp b4).1 ?_)
  have other : ∀ b, b ≠ T → ∀ x : Obj → Obj, (s.heap.update T x).get? b = s.heap.get? b := fun b hb x => Heap.get?_update_other _ _ (Ne.symm hb)
  refine entry_step h1 (h2.of_keeps fun b o hb hn => ⟨o, ?_, rfl⟩) h3 ((other e (Ne.symm ne) _).trans a1) a4 (Array.getElem?_eq_some_iff.mp b1).1 a3 fun h' T' n1 r1 hp => q h' T' ?_ r1 ?_
  · rw [other b (fun z => by rw [z, b2] at hb; cases hb; exact hn ts b3)]; exact hb
  · by_cases z : T' = T
    · rw [z] at n1
      rw [Heap.get?_update_self _ b2 (Obj.isFreed_of_fields (Obj.data_mapFields b3 _))] at n1
      cases n1
    · rw [other T' z] at n1; exact n1
  · exact (Hop.upd (fr := frs (env :: outer)) _).trans hp
theorem note_same (h3 : env.frame = some L) (r : Rec s.heap e T cls fl) (hf : (fl == rawInt L) = true) (q : Q () s) : wpAny M A (noteFrame (.ref e) env) Q E s := by
  obtain ⟨oe, vs, oT, ts, ⟨a1, a2, a3, a4⟩, b1, ne, b2, b3, b4⟩ := r
  unfold noteFrame
  simp only [h3]
  refine wpAny_bind (wpAny_field a1 a4 b1 ?_)
  rw [if_pos (by simp)]
  refine wpAny_bind (wpAny_field b2 b3 b4 ?_)
  rw [hf, if_pos rfl]
  exact wpAny_pure q
/-- the mark is set -/
theorem fly_on {what : String} {cenv : Env} {α : Type} {P : α → Shared → Prop} (r : Rec s.heap e T cls fl) (q : ∀ h' fl', Rec h' e T cls fl' → Hop (frs (env :: outer)) [T] s.heap h' → E (.ref e) { s with heap := h' }) : wpAny M A (PySem.passOn what (.ref e) cenv : Sem α) P E s := by
  obtain ⟨oe, vs, oT, ts, ⟨a1, a2, a3, a4⟩, b1, ne, b2, b3, b4⟩ := r
  unfold PySem.passOn
  refine wpAny_bind (wpAny_field a1 a4 b1 ?_)
  rw [if_neg (by simp)]
  refine wpAny_bind ?_
  unfold setFlight
  refine wpAny_bind (wpAny_field a1 a4 b1 ?_)
  rw [if_pos (by simp)]
  refine wpAny_setField b2 b3 (Array.getElem?_eq_some_iff.mp b4).1 ?_
  refine wpAny_throw (q _ (cenv.frame.elim .none fun f => rawInt f) ?_ (Hop.upd _))
  have d := Obj.data_mapFields b3 (·.setIfInBounds 3 (cenv.frame.elim Value.none fun f => rawInt f))
  exact ⟨oe, vs, _, _, ⟨(Heap.get?_update_other _ _ ne).trans a1, a2, a3, a4⟩, b1, ne, Heap.get?_update_self _ b2 (Obj.isFreed_of_fields d), d, by simp [(Array.getElem?_eq_some_iff.mp b4).1]⟩
end
section
variable {X : Cx} {pins : List (Addr × Obj)} {σ : St} {H : Hp} {s s' : Shared} {E : XK} {e : Value}
/-- the exception leaves the def, whatever its mark -/
theorem Inv.leaveAny {a T : Addr} {cls fl : Value} {Ex : Value → Shared → Prop} (I : Inv X pins σ H s) (ow : OwnX X) (r : Rec s.heap a T cls fl) (o1 : Out X pins H a) (o2 : Out X pins H T) (q : E cls none H) :
    wpAny (model X.prog X.w) X.A (leaving X.env (.ref a)) (fun _ s'' => CXE X.prog X.w X.outer X.H₀ X.s₀ E (.ref a) s'') Ex s := by
  have fin : ∀ {h1 : Heap} {T' : Addr} {fl' : Value}, Inv X pins σ H { s with heap := h1, toks := s.toks } → Rec h1 a T' cls fl' → Out X pins H T' → wpAny (model X.prog X.w) X.A (setFlight (.ref a) none) (fun _ s'' => CXE X.prog X.w X.outer X.H₀ X.s₀ E (.ref a) s'') Ex { s with heap := h1 } := fun {h1 T' fl'} I1 r1 o3 => by
    refine land (env := X.env) (outer := X.outer) (s := { s with heap := h1 }) r1 fun h2 r2 p2 => ?_
    rw [← ow.stk] at p2
    have I2 : Inv X pins σ H { s with heap := h2, toks := s.toks } := I1.hop p2 fun b hb => by rw [List.mem_singleton.mp hb]; exact o3
    have u := I2.base
    rw [ow.ex] at u
    exact ⟨a, cls, H, rfl, I2.os, I2.bare, u, I2.hok, ⟨T', r2, ⟨o1.h, o1.s0⟩, o3.h, o3.s0⟩, q⟩
  unfold leaving
  cases hf : (fl == rawInt X.env.locals) with
  | true => exact wpAny_bind (note_same ow.fr r hf (fin I r o2))
  | false =>
    refine wpAny_bind (note_any (base := X.base) (outer := X.outer) (by rw [← ow.stk]; exact I.ok.frames) (by rw [← ow.stk]; exact I.stack) ow.fr r hf fun h1 T' n1 r1 p1 => ?_)
    have o3 := I.out ow.ex n1
    rw [← ow.stk] at p1
    refine fin (I.hop p1 fun b hb => ?_) r1 o3
    rcases List.mem_cons.mp hb with rfl | hb
    · exact o2
    · rw [List.mem_singleton.mp hb]; exact o1
end
section
variable {prog : Program} {w : World} {A : Around} {R : Result → Shared → Prop} {s : Shared}
/-- the loop of a comprehension whose element may raise -/
theorem compLoop_genX {elt target iter : Expr} {scope : Scope} {pos : Pos} {it acc : Value} {env : Env} (I : Nat → Shared → Prop)
    (turn : ∀ n s, I n s → wpAny (model prog w) A (pyNext it) (fun r s₁ => match r with
      | none => R (.ok .next) s₁
      | some v => wpAny (model prog w) A (letOwnedTupleGo target it v) (fun _ s₀ => wpAny (model prog w) A (assign target env v) (fun _ s₂ =>
          wpAny (model prog w) A (eval elt env) (fun x s₄ =>
              wpAny (model prog w) A (call (.builtin "list.append") [acc, x]) (fun _ s₅ => ∃ m, m < n ∧ I m s₅) (notedBy (model prog w) A env fun e s' => R (.error e) s') s₄) (notedBy (model prog w) A env fun e s' => R (.error e) s') s₂) (notedBy (model prog w) A env fun e s' => R (.error e) s') s₀) (notedBy (model prog w) A env fun e s' => R (.error e) s') s₁) (notedBy (model prog w) A env fun e s' => R (.error e) s') s)
    (n : Nat) (h : I n s) :
    codeAny (model prog w) A (.compLoop (.ListComp elt [⟨target, iter, [], 0⟩] scope pos) 0 it acc env) R s := by
  refine codeAny_loop rfl I (fun n s hI => ?_) n h
  show wpAny _ A ((compTurn (.ListComp elt [⟨target, iter, [], 0⟩] scope pos) 0 it acc env).onRaise (fun x => do noteFrame x env; theTreesLotGoes x)) _ _ s
  refine wpAny_noted ?_
  rw [compTurn_list]
  refine wpAny_bind (wpAny_standAt (wpAny_bind (wpAny_mono (turn n s hI) (fun r s₁ h₁ => ?_) fun _ _ h' => h')))
  cases r with
  | none => exact wpAny_pure h₁
  | some v =>
    refine wpAny_bind (wpAny_mono h₁ (fun _ s₀ h₀ => ?_) fun _ _ h' => h')
    refine wpAny_bind (wpAny_mono h₀ (fun _ s₂ h₂ => wpAny_bind (wpAny_tests_nil ?_)) fun _ _ h' => h')
    exact wpAny_bind (wpAny_bind (wpAny_mono h₂ (fun x s₄ h₄ => wpAny_bind (wpAny_mono h₄ (fun _ s₅ h₅ => wpAny_pure (wpAny_pure ⟨rfl, h₅⟩)) fun _ _ h' => h')) fun _ _ h' => h'))
end
theorem Rec.keep {h h' : Heap} {e T : Addr} {cls fl : Value} (r : Rec h e T cls fl) (k : ∀ b o, (b = e ∨ b = T) → h.get? b = some o → h'.get? b = some o) : Rec h' e T cls fl := by
  obtain ⟨oe, vs, oT, ts, ⟨a1, a2, a3, a4⟩, b1, ne, b2, b3, b4⟩ := r
  exact ⟨oe, vs, oT, ts, ⟨k _ _ (.inl rfl) a1, a2, a3, a4⟩, b1, ne, k _ _ (.inr rfl) b2, b3, b4⟩
/-- the context of a comprehension's block, exceptions as xe wants -/
def compCxX (X : Cx) (N' : List Str) (scope : Scope) (cl : List (Str × Addr)) (C : Addr) (s3 : Shared) (H3 : Hp) (fp : List Addr) (pins : List (Addr × Obj)) (xe : Value → Shared → Prop) : Cx :=
  { X with N := N', s₀ := s3, H₀ := H3, env := compEnvC scope cl C X.env, outer := X.stack, stack := X.stack, ex := fp, fn := fun _ => false, pn := X.pn ++ pins, xe := xe }
/-- the reading: no test; an element may raise (then its own reading asks no more) -/
def compWX (J : It) (g : TG) (te : TE) (σ0 : St) (H1 : Hp) (Q : VK) : Prop := ∀ D, H1 D = none → ∃ W : Nat → Nat → List V → Hp → Prop, (∃ m, W 0 m [] (upd H1 D (.lst []))) ∧
  ∀ i m ys H, W i m ys H → (J.stop i H ∧ H D = some (.lst ys) ∧ Q (.ref D) H) ∨
    (J.go i H ∧ ∀ x H', J.yld i H x H' → g x σ0 H' fun σ2 H2 => te σ2 H2 fun v H4 => H4 D = some (.lst ys) ∧ ys.length < sizeLine ∧ ∃ m', m' < m ∧ W (i + 1) m' (ys ++ [v]) (upd H4 D (.lst (ys ++ [v]))))
section
variable {X : Cx} {tg elt iter : Expr} {scope : Scope} {cl : List (Str × Addr)} {N' : List Str} {σ0 : St → St} {g : TG} {te : TE} {E : XK}
theorem comp_blockX {pos : Pos} {pins : List (Addr × Obj)} {σ : St} {H1 : Hp} {s2 : Shared} {it : Addr} {fp : List Addr} {tn : Nat → Heap → Prop} {J : It} {Q : VK}
    (ow : OwnX X) (lk : XLink X E) (hc : X.calm = true) (hcell : ∀ y ∈ scope.names, y.2 ≠ .cell) (hkind : scope.kind = .function)
    (I : Inv X pins σ H1 s2) (T : Turn X.prog X.w X.K tg J fp it tn) (st : tn 0 s2.heap) (hfp : ∀ b ∈ fp, FpOk X pins H1 b) (fr : Frees X N' scope cl σ (σ0 σ)) (hk : Keepg g (σ0 σ))
    (hg : ∀ C s3 H3 fp pins xe, PG (compCxX X N' scope cl C s3 H3 fp pins xe) tg g)
    (he : ∀ C s3 H3 fp pins xe, Passes (CXE X.prog X.w) (compCxX X N' scope cl C s3 H3 fp pins xe) E → PE (compCxX X N' scope cl C s3 H3 fp pins xe) elt te) (hw : compWX J g te (σ0 σ) H1 Q) :
    wpAny (model X.prog X.w) X.A (newList []) (fun acc s₃ => wpAny (model X.prog X.w) X.A (newFunctionEnv scope X.env.globals cl [] X.env.qual none .none (some X.env)) (fun cenv s₄ =>
      codeAny (model X.prog X.w) X.A (.compStart (.ListComp elt [⟨tg, iter, [], 0⟩] scope pos) 0 (.ref it) acc { cenv with scope := relabel scope X.env }) (compPost (model X.prog X.w) X.A X.xe none (EP X pins σ Q) acc cenv.locals) s₄) X.xe s₃) X.xe s2 := by
  refine wpAny_newObj_type (hd := by size_fits) (wpAny_newFunctionEnv hcell (by intro y hy; simp at hy) (fun h₁ hns₁ hsb₁ => ?_) hkind)
  dsimp only at hns₁ hsb₁ ⊢
  have I3 : Inv X pins σ (upd H1 s2.heap.objs.size (.lst [])) { s2 with heap := s2.heap.push { cls := .type "list", dict := none, data := .seq ([] : List Value).toArray } } := I.lnew (t' := s2.toks) (its := []) (ys := []) .nil (Nat.zero_le _)
  obtain ⟨W, ⟨m0, w0⟩, turn⟩ := hw s2.heap.objs.size I.fresh
  have hfpo := T.obj 0 _ st
  have fpl : ∀ b ∈ fp, b < s2.heap.objs.size := fun b hb => by
    obtain ⟨o, e, _⟩ := hfpo b hb
    exact Heap.lt_size e
  have fD : ∀ b ∈ fp, upd H1 s2.heap.objs.size (.lst []) b = none := fun b hb => by
    rw [upd_ne (Nat.ne_of_lt (fpl b hb))]
    exact (hfp b hb).1
  generalize hs3 : ({ s2 with heap := s2.heap.push { cls := .type "list", dict := none, data := .seq ([] : List Value).toArray } } : Shared) = s3 at I3
  have es3 : s3.heap = s2.heap.push { cls := .type "list", dict := none, data := .seq ([] : List Value).toArray } := by rw [← hs3]
  have st3 : tn 0 s3.heap := T.keep _ _ _ st fun b hb o e => by rw [es3]; exact Heap.get?_push_of_some _ e
  rw [← es3] at hns₁ hsb₁ ⊢
  have sz3 : s2.heap.objs.size < s3.heap.objs.size := by rw [es3, Heap.size_push]; exact Nat.lt_succ_self _
  generalize upd H1 s2.heap.objs.size (.lst []) = H3 at I3 fD w0
  have old : ∀ b o, s3.heap.get? b = some o → h₁.get? b = some o := fun b o e => hsb₁.extBut b o (Nat.ne_of_lt (Heap.lt_size e)) (Heap.get?_push_of_some _ e)
  have fpl3 : ∀ b ∈ fp, b < s3.heap.objs.size := fun b hb => Nat.lt_trans (fpl b hb) sz3
  have stk : ∀ b ∈ fp, b ∉ frs X.stack := fun b hb z => by
    rcases List.mem_cons.mp (I3.stkSub b z) with e | e
    · exact (hfp b hb).2.1 e
    · exact (hfp b hb).2.2.1 e
  have lt3 : X.env.locals < s3.heap.objs.size := I3.lt
  have cC : ∀ x c, X.env.cells.lookup x = some c → c ≠ s3.heap.objs.size := fun x c e z => by
    obtain ⟨v, o, ho, _⟩ := I3.cell x c e
    exact absurd (Heap.lt_size ho) (by rw [z]; exact Nat.lt_irrefl _)
  have pC : ∀ p ∈ X.pn ++ pins, p.1 ≠ s3.heap.objs.size := fun p hp z => by
    have e := (I3.pin p hp).1
    exact absurd (Heap.lt_size e) (by rw [z]; exact Nat.lt_irrefl _)
  have xeC : Passes (CXE X.prog X.w) (compCxX X N' scope cl s3.heap.objs.size s3 H3 fp pins (notedBy (model X.prog X.w) X.A (compEnvC scope cl s3.heap.objs.size X.env) fun e s' => compPost (model X.prog X.w) X.A X.xe none (EP X pins σ Q) (.ref s2.heap.objs.size) s3.heap.objs.size (.error e) s')) E := by
    intro pl σ' H s e s' Ii h
    have J0 : Inv X pins σ H s := I3.call' Ii.os Ii.base Ii.hok Ii.bare fun b hb => ⟨(hfp b hb).2.2.2.1, (hfp b hb).2.1, (hfp b hb).2.2.2.2.1, (hfp b hb).2.2.2.2.2⟩
    have Cs : ∃ o, s.heap.get? s3.heap.objs.size = some o := by
      obtain ⟨m, ⟨o, es, ep, ho, _⟩, _⟩ := Ii.loc
      exact ⟨o, ho⟩
    obtain ⟨a, cls, H', rfl, ho, hb, u, hok, ⟨T', r, ⟨a1, a2⟩, b1, b2⟩, q⟩ := h
    have Ij := Ii.call' ho u hok hb (fun b z => absurd z (by simp))
    have J1 : Inv X pins σ H' s' := J0.call' ho u hok hb (fun b z => absurd z (by simp))
    have o1 := (J0.out ow.ex a2).weak a1
    have o2 := (J0.out ow.ex b2).weak b1
    obtain ⟨m, ⟨oC, es, ep, hoC, rC⟩, _⟩ := Ij.loc
    have hCH : H' s3.heap.objs.size = none := Ij.free
    have neA : s3.heap.objs.size ≠ a := fun z => by obtain ⟨o, e⟩ := Cs; rw [z, a2] at e; cases e
    have neT : s3.heap.objs.size ≠ T' := fun z => by obtain ⟨o, e⟩ := Cs; rw [z, b2] at e; cases e
    show wpAny _ _ (noteFrame (.ref a) X.env) _ _ s'
    refine note_next (base := X.base) (outer := X.outer) (by rw [← ow.stk]; exact J1.ok.frames) (by rw [← ow.stk]; exact J1.stack) ow.fr r fun h1 T2 n1 r1 p1 => ?_
    rw [← ow.stk] at p1
    have o3 := J1.out ow.ex n1
    have neT2 : s3.heap.objs.size ≠ T2 := fun z => by rw [← z] at n1; have hoC : s'.heap.get? s3.heap.objs.size = some oC := hoC; rw [hoC] at n1; cases n1
    have J2 : Inv X pins σ H' { s' with heap := h1, toks := s'.toks } := J1.hop p1 fun b hb => by
      rcases List.mem_cons.mp hb with rfl | hb
      · exact o2
      · rw [List.mem_singleton.mp hb]; exact o1
    obtain ⟨sl, hoC1⟩ := p1.slot s3.heap.objs.size oC (fun z => by
      rcases List.mem_cons.mp z with z | z
      · exact neT z
      · exact neA (List.mem_singleton.mp z)) hoC
    refine ⟨m, ⟨_, es, ep, hoC1, rC⟩, fun h2 sb cenv _ => ?_⟩
    have J3 : Inv X pins σ H' { s' with heap := h2, toks := s'.toks } := J2.turned (t' := s'.toks) (fun b o hb e => sb.extBut b o hb e) hCH (Nat.ne_of_gt lt3) (.inr I3.sz) cC pC
    have r2 : Rec h2 a T2 cls (rawInt X.env.locals) := r1.keep fun b o hb e => sb.extBut b o (by
      rcases hb with rfl | rfl
      · exact Ne.symm neA
      · exact Ne.symm neT2) e
    refine fly_on (env := X.env) (outer := X.outer) (s := { s' with heap := h2 }) r2 fun h3 fl' r3 p3 => ?_
    rw [← ow.stk] at p3
    have J4 : Inv X pins σ H' { s' with heap := h3, toks := s'.toks } := J3.hop p3 fun b hb => by rw [List.mem_singleton.mp hb]; exact o3
    exact lk _ _ (J4.leaveAny ow r3 o1 o3 q)
  generalize hxe : (notedBy (model X.prog X.w) X.A (compEnvC scope cl s3.heap.objs.size X.env) fun e s' => compPost (model X.prog X.w) X.A X.xe none (EP X pins σ Q) (.ref s2.heap.objs.size) s3.heap.objs.size (.error e) s') = xe at xeC
  -- the block's own state
  have ok : (compCxX X N' scope cl s3.heap.objs.size s3 H3 fp pins xe).Ok := by
    refine ⟨I3.ok.mod, hkind, I3.ok.glob, I3.ok.blt, Nat.le_refl _, fun x y c h1 h2 => I3.ok.inj x y c (fr.sub x c h1) (fr.sub y c h2), fun x h => fr.has x h, fun x c h _ => (by cases h), I3.ok.hd, I3.ok.frames, .inl rfl,
      fun b hb => ⟨Nat.ne_of_lt (fpl3 b hb), fun x c e => (hfp b hb).2.2.2.2.1 x c (fr.sub x c e)⟩, I3.bs, Nat.le_trans I3.ok.bsz I3.sz, fun b o e hb => ?_, fun b hb => stk b hb, I3.stack, I3.stkFree⟩
    rcases (hfp b hb).2.2.2.1 with z | z
    · exact I3.ok.noex b o e z
    · have l1 : b < X.base.objs.size := Heap.lt_size e
      have l2 : X.base.objs.size ≤ X.s₀.heap.objs.size := I3.ok.bsz
      have l3 : X.s₀.heap.objs.size ≤ b := z
      exact absurd (Nat.lt_of_lt_of_le l1 (Nat.le_trans l2 l3)) (Nat.lt_irrefl _)
  have start : Inv (compCxX X N' scope cl s3.heap.objs.size s3 H3 fp pins xe) [] (σ0 σ) H3 { s3 with heap := h₁ } := by
    refine ⟨ok, rfl, I3.bare, Un.kept old, ⟨_, hns₁, fun j x v e1 e2 _ => ?_⟩, fun x c e => ?_, I3.hok.fresh (Nat.le_refl _), fun x c e => I3.freeC x c (fr.sub x c e), fun p hp => ?_, I3.hok.kept old, fr.len⟩
    · obtain ⟨i, c, q1, q2, q3, q4, q5, q6⟩ := fr.vals j x v e1 e2
      obtain ⟨m, hn, hl⟩ := I3.loc
      obtain ⟨u, r, l⟩ := hl i x v q1 q2 q3
      refine ⟨u, r, .inr ⟨q6, c, q5, ?_⟩⟩
      rcases l with ⟨k, _⟩ | ⟨_, c', e', z⟩
      · exact absurd k q4
      · rw [fr.sub x c q5] at e'
        cases e'
        obtain ⟨o, ho, hd⟩ := z
        exact ⟨o, old _ _ ho, hd⟩
    · obtain ⟨v, o, ho, hd⟩ := I3.cell x c (fr.sub x c e)
      exact ⟨v, o, old _ _ ho, hd⟩
    · have hp' : p ∈ X.pn ++ pins := by simpa [compCxX] using hp
      obtain ⟨e, n, ne, nf, d⟩ := I3.pin p hp'
      refine ⟨old _ _ e, n, Nat.ne_of_lt (Heap.lt_size e), fun z => ?_, d⟩
      rcases List.mem_cons.mp (I3.stkSub p.1 z) with q | q
      · exact ne q
      · exact nf q
  have hst₁ : tn 0 h₁ := T.keep _ _ _ st3 fun b _ o e => old b o e
  have fpok : ∀ {H' : Hp}, (∀ b ∈ fp, H' b = none) → ∀ b ∈ fp, FpOk (compCxX X N' scope cl s3.heap.objs.size s3 H3 fp pins xe) [] H' b := fun {H'} hn b hb =>
    ⟨hn b hb, Nat.ne_of_lt (fpl3 b hb), stk b hb, .inl hb, fun x c e => (hfp b hb).2.2.2.2.1 x c (fr.sub x c e), fun p hp => (hfp b hb).2.2.2.2.2 p (by simpa [compCxX] using hp)⟩
  have loop : codeAny (model X.prog X.w) X.A (.compLoop (.ListComp elt [⟨tg, iter, [], 0⟩] scope pos) 0 (.ref it) (.ref s2.heap.objs.size) (compEnvC scope cl s3.heap.objs.size X.env)) (compPost (model X.prog X.w) X.A X.xe none (EP X pins σ Q) (.ref s2.heap.objs.size) s3.heap.objs.size) { s3 with heap := h₁ } := by
    refine compLoop_genX (fun n s' => ∃ i ys H', Inv (compCxX X N' scope cl s3.heap.objs.size s3 H3 fp pins xe) [] (σ0 σ) H' s' ∧ tn i s'.heap ∧ (∀ b ∈ fp, H' b = none) ∧ W i n ys H') ?_ m0 ⟨0, [], H3, start, hst₁, fD, w0⟩
    rw [hxe]
    rintro n s4 ⟨i, ys, H4, I4, st4, fr4, w4⟩
    rcases turn i n ys H4 w4 with ⟨stop, eD, q⟩ | ⟨go, step⟩
    · refine thn (T.done (compCxX X N' scope cl s3.heap.objs.size s3 H3 fp pins xe) rfl rfl rfl hc i [] s4 _ H4 _ I4 (fpok fr4) st4 stop) fun r s5 ⟨hr, I5⟩ => ?_
      subst hr
      obtain ⟨m5, n5, _⟩ := I5.loc
      have J5 : Inv X pins σ H4 s5 := I3.call' I5.os I5.base I5.hok I5.bare fun b hb => ⟨(hfp b hb).2.2.2.1, (hfp b hb).2.1, (hfp b hb).2.2.2.2.1, (hfp b hb).2.2.2.2.2⟩
      refine ⟨m5, n5, fun h'' hs'' => ⟨.ref s2.heap.objs.size, H4, ?_, rfl, q⟩⟩
      exact J5.turned (t' := s5.toks) (fun b o hb e => hs''.extBut b o hb e) I5.free (Nat.ne_of_gt lt3) (.inr I3.sz) cC pC
    · refine thn (T.item (compCxX X N' scope cl s3.heap.objs.size s3 H3 fp pins xe) rfl rfl rfl hc i [] s4 _ H4 _ I4 (fpok fr4) st4 go) fun r s5 ⟨u, hr, h5⟩ => ?_
      subst hr
      refine thn h5 fun _ s6 ⟨x, H6, I6, r6, y6, st6, fr6⟩ => ?_
      have I6' := I6.pinned (fpok fr6) (T.obj _ _ st6)
      refine thn (hg _ _ _ _ _ _ _ s6 _ H6 x u _ I6' r6 (hk _ _ _ (step x H6 y6))) fun _ s7 ⟨σ7, H7, I7, q7, l7, k7⟩ => ?_
      have again : ∀ {s8 : Shared} {H8 : Hp} {m : Nat} {zs : List V}, Inv (compCxX X N' scope cl s3.heap.objs.size s3 H3 fp pins xe) ([] ++ pinsAt fp s6.heap) σ7 H8 s8 → m < n → W (i + 1) m zs H8 →
          ∃ m, m < n ∧ ∃ i ys H', Inv (compCxX X N' scope cl s3.heap.objs.size s3 H3 fp pins xe) [] (σ0 σ) H' s8 ∧ tn i s8.heap ∧ (∀ b ∈ fp, H' b = none) ∧ W i m ys H' := fun {s8 H8 m zs} I8 hm w8 => by
        refine ⟨m, hm, i + 1, zs, H8, (Inv.unpinned I8).weak l7.symm k7, T.keep _ _ _ st6 fun b hb o e => (I8.pin (b, o) (List.mem_append_right _ (List.mem_append_right _ (mem_pinsAt hb e)))).1, fun b hb => ?_, w8⟩
        obtain ⟨o, e, d⟩ := T.obj _ _ st6 b hb
        exact (I8.pin (b, o) (List.mem_append_right _ (List.mem_append_right _ (mem_pinsAt hb e)))).2.1
      refine thn (he _ _ _ _ _ _ xeC _ s7 σ7 H7 _ I7 q7) fun v s9 ⟨y, H9, I9, r9, e9, z9, m', hm, w9⟩ => ?_
      exact thn (mt_append _ s9 σ7 H9 (.ref s2.heap.objs.size) [y] (.ref s2.heap.objs.size) [v] (fun _ H' => H' = upd H9 s2.heap.objs.size (.lst (ys ++ [y]))) I9 rfl (.cons r9 .nil) ⟨_, ys, y, rfl, rfl, e9, z9, rfl⟩)
          fun _ s10 ⟨_, H10, I10, _, e10⟩ => by subst e10; exact again I10 hm w9
  subst hs3
  exact codeAny_compStart_list loop (T.self _ 0 _ _ _ hst₁ loop)
def tCompX (wi : TI) (g : TG) (te : TE) (σ0 : St → St) : TE := fun σ H Q => wi σ H fun J H1 => compWX J g te (σ0 σ) H1 Q
variable {pos : Pos} {wi : TI} {ts zs : List Str} {is : List Nat} {k : Nat}
theorem pe_cX (lk : XLink X E) (ow : OwnX X) (hc : X.calm = true) (hi : PI X tg iter wi) (hk : ts.length = k) (hs : SubL X cl) (hcp : CapL X scope cl is zs) (ha : ((relabel scope X.env).names.all fun y => !(y.2 == .cell || y.2 == .free) || zs.contains y.1) = true) (hl : Low k g)
    (hg : ∀ C s3 H3 fp pins xe, PG (compCxX X (ts ++ zs) scope cl C s3 H3 fp pins xe) tg g) (he : ∀ C s3 H3 fp pins xe, Passes (CXE X.prog X.w) (compCxX X (ts ++ zs) scope cl C s3 H3 fp pins xe) E → PE (compCxX X (ts ++ zs) scope cl C s3 H3 fp pins xe) elt te)
    (hclos : closureFor scope X.env = pure cl) (hcell : ∀ y ∈ scope.names, y.2 ≠ .cell) (hkind : scope.kind = .function) (hnames : ∀ y ∈ scope.names, y.2 = .local → scope.names.lookup y.1 = some .local)
    (hf : ∀ x, foldedSetIterable iter X.env x = pure x := by intro _; rfl) : PE X (.ListComp elt [⟨tg, iter, [], 0⟩] scope pos) (tCompX wi g te (VL.s0 k is)) := by
  intro pins s σ H Q I h
  rw [eval_ListComp]
  refine wpAny_comprehension_free (use := none) rfl hf hclos hkind hnames (thn (hi pins s σ H _ I h) fun v s1 h1 => thn h1 fun itv s2 h2 => ?_)
  obtain ⟨it, fp, tn, J, H2, e, I2, T, st2, f2, q⟩ := h2
  subst e
  exact comp_blockX ow lk hc hcell hkind I2 T st2 f2 (Frees.many hk hs hcp ha) (hl.keep σ) hg he q
theorem pgbX {i : Nat} {y : Str} {py : Pos} (nd : N'.Nodup) (hi : N'[i]? = some y) (hx : scope.names.lookup y = some .local) {C : Addr} {s3 : Shared} {H3 : Hp} {fp : List Addr} {pins : List (Addr × Obj)} {xe : Value → Shared → Prop} :
    PG (compCxX X N' scope cl C s3 H3 fp pins xe) (.Name y py) (gName i) := pg_name nd hi (.inl (lookup_relabel_local hx)) (.inr (lookup_relabel_local hx))
/-- one reading or the other -/
def tOrE (t u : TE) : TE := fun σ H Q => t σ H Q ∨ u σ H Q
theorem pe_or2 {e : Expr} {t u : TE} (h1 : PE X e t) (h2 : PE X e u) : PE X e (tOrE t u) := fun pins s σ H Q I h => h.elim (h1 pins s σ H Q I) (h2 pins s σ H Q I)
end
end L2
namespace VL
open PySem L2
open Classical
noncomputable section
variable {K : PySem.W.Frag} {E : XK} {C : Addr}
/-- one of the items raises, those ahead of it don't -/
def raisesIn (g : DG) (e x : DE) (r : Rho) : List D → Prop
  | [] => False
  | d :: ds => match g d r with
    | none => False
    | some ρ1 => match x ρ1 with
      | some _ => True
      | none => match e ρ1 with
        | some _ => raisesIn g e x r ds
        | none => False
@[irreducible] def sXC (k : Nat) (cs : List Nat) (it : Rho → Option (List D)) (g : DG) (e x : DE) : DS := fun ρ => match it ρ with
  | some ds => if raisesIn g e x (r0 k cs ρ) ds then .rt .non else .no
  | none => .no
theorem ss_xcomp {m : Bool} {k : Nat} {cs : List Nat} {wi : TI} {g : TG} {te : TE} {it : Rho → Option (List D)} {gd : DG} {ed : DE} {ms : List Bool} {F : List D → Option D} {t : TA} {es : Rho → Option (List D)} (hw : SemWC K m wi it) (hg : SemG K m g gd) (he : SemI K te ed) (ha : SemA K ms t es) :
    SemS (.x E C) K (tRet (tCompX wi g (tOrE te (tCall (spX K ms C F) [] E t)) (s0 k cs))) (sXC k cs it gd ed (dCall F es)) := fun {B Z os ρ σ H En} f p => by
  have hk : ∃ xs, it ρ = some xs ∧ raisesIn gd ed (dCall F es) (r0 k cs ρ) xs ∧ ∀ H', Same B H' → E (.ref C) none H' := by
    unfold sXC at p
    split at p
    · rename_i xs e0
      split at p
      · rename_i h; exact ⟨xs, e0, h, p⟩
      · exact p.elim
    · exact p.elim
  clear p
  obtain ⟨xs, e0, q, p⟩ := hk
  show wi σ H _
  refine hw f e0 fun J H1 s1 W Dl hD => ?_
  have f1 := f.grow s1
  have sD : ∀ {H2 : Hp} {ys : List V}, Same H1 H2 → Same H1 (upd H2 Dl (.lst ys)) := fun {H2 ys} s a o e => by
    rw [upd_ne (ne_of_none e hD)]; exact s _ _ e
  refine ⟨fun i m ys H2 => m = xs.length - i ∧ i ≤ xs.length ∧ Same H1 H2 ∧ H2 Dl = some (.lst ys) ∧ ys.length ≤ i ∧ raisesIn gd ed (dCall F es) (r0 k cs ρ) (xs.drop i),
    ⟨_, rfl, Nat.zero_le _, sD (Same.refl _), upd_same, Nat.le_refl _, q⟩, ?_⟩
  rintro i mm ys H2 ⟨rfl, hi, s2, eD, hly, q2⟩
  have kp12 : Kp (tot Z os) H1 (fun a => a = Dl ∨ tot Z os a) H2 := fun a u e z => ⟨s2 _ _ e, fun w => w.elim (ne_of_none e hD) z⟩
  by_cases hlt : i < xs.length
  · have ex : xs[i]? = some xs[i] := List.getElem?_eq_getElem hlt
    have ef := blockFr f1 hD s2 eD k cs
    obtain ⟨go, yl⟩ := W.go i xs[i] H2 _ kp12 s2 (fun a z => ef.zin a z) ex
    refine .inr ⟨go, fun x H3 hy => ?_⟩
    obtain ⟨s3, er⟩ := yl x H3 hy
    have eD3 := s3 _ _ eD
    have s13 := s2.trans s3
    have ef3 := blockFr f1 hD s13 eD3 k cs
    rw [List.drop_eq_getElem_cons hlt] at q2
    unfold raisesIn at q2
    have er' : ER K m H1 H3 (tot (fun a => a = Dl ∨ tot Z os a) fun _ => []) x xs[i] := by
      cases m with
      | false => exact er
      | true => exact Is.kp (Kp.less fun a z => z.elim id fun ⟨_, w⟩ => by cases w) er
    split at q2
    · exact q2.elim
    · rename_i ρ1 e1
      refine hg ef3 er' e1 fun os1 σ1 fr1 k1 => ?_
      split at q2
      · rename_i d e2
        exact .inr (sx_call ha fr1 e2 (fun H' s' => p H' (f1.keep.trans s')) _)
      · split at q2
        · rename_i y e3
          refine .inl (he fr1 e3 fun v H5 s5 i5 => ?_)
          have hl := W.len
          exact ⟨s5 _ _ eD3, by omega, _, by omega, rfl, hlt, sD (s13.trans s5), upd_same, by rw [List.length_append, List.length_singleton]; omega, q2⟩
        · exact q2.elim
  · have e : i = xs.length := by omega
    subst e
    rw [List.drop_length] at q2
    exact q2.elim
theorem wp_xcomp {k : Nat} {cs : List Nat} {it : Rho → Option (List D)} {g : DG} {e x : DE} {ρ : Rho} {ds : List D} {W : Wk} (h : it ρ = some ds) (hr : raisesIn g e x (r0 k cs ρ) ds) (kk : W.rt .non) : Wp (sXC k cs it g e x) ρ W := by
  unfold Wp sXC
  rw [h]
  simp only [if_pos hr]
  exact kk
theorem raises_of {α : Type} {g : DG} {e x : DE} {r : Rho} (emb : α → D) : ∀ {xs : List α}, (∀ a ∈ xs, ∃ ρ1, g (emb a) r = some ρ1 ∧ ((∃ d, x ρ1 = some d) ∨ ∃ d, e ρ1 = some d)) → (∃ a ∈ xs, ∀ ρ1, g (emb a) r = some ρ1 → ∃ d, x ρ1 = some d) → raisesIn g e x r (xs.map emb)
  | [], _, ⟨_, h, _⟩ => by cases h
  | a :: xs, h, hx => by
    obtain ⟨ρ1, e1, h1⟩ := h a List.mem_cons_self
    rw [List.map_cons]
    unfold raisesIn
    rw [e1]
    dsimp only
    cases ex : x ρ1 with
    | some d => trivial
    | none =>
      rcases h1 with ⟨d, h1⟩ | ⟨d, h1⟩
      · rw [ex] at h1; cases h1
      · rw [h1]
        refine raises_of emb (fun b hb => h b (List.mem_cons_of_mem _ hb)) ?_
        obtain ⟨b, hb, h2⟩ := hx
        rcases List.mem_cons.mp hb with rfl | hb
        · obtain ⟨d', h3⟩ := h2 ρ1 e1
          rw [ex] at h3; cases h3
        · exact ⟨b, hb, h2⟩
/-- an expression that surely raises -/
def SemX (E : XK) (C : Addr) (K : PySem.W.Frag) (t : TE) (x : DE) : Prop := ∀ {B : Hp} {Z : Addr → Prop} {os : Own} {ρ : Rho} {σ : L2.St} {H : Hp} {d : D}, Fr K B Z os ρ σ H → x ρ = some d → (∀ H', Same B H' → E (.ref C) none H') → ∀ Q, t σ H Q
theorem sx_c {ms : List Bool} {F : List D → Option D} {t : TA} {es : Rho → Option (List D)} (ha : SemA K ms t es) : SemX E C K (tCall (spX K ms C F) [] E t) (dCall F es) := fun f e p Q => sx_call ha f e p Q
theorem sx_arg {sp : Sp} {dvs : List V} {E' : XK} {t : TE} {tr : TA} {x : DE} (h : SemX E C K t x) : SemX E C K (tCall sp dvs E' (tCons t tr)) x := fun f e p Q => h f e p _
theorem sx_argB {r : List V → Hp → VK → Prop} {t : TE} {tr : TA} {x : DE} (h : SemX E C K t x) : SemX E C K (tCB r (tCons t tr)) x := fun f e p Q => h f e p _
theorem ss_xret2 {t : TE} {x : DE} (h : SemX E C K t x) : SemS (.x E C) K (tRet t) (sX x) := fun {B Z os ρ σ H En} f p => by
  unfold sX at p
  split at p
  · rename_i d e; exact h f e p _
  · exact p.elim
theorem ss_xset2 {t : TE} {x : DE} {g : TG} (h : SemX E C K t x) : SemS (.x E C) K (tAsg t g) (sX x) := fun {B Z os ρ σ H En} f p => by
  unfold sX at p
  split at p
  · rename_i d e; exact h f e p _
  · exact p.elim
end
end VL

set_option maxHeartbeats 4000000
namespace My
open PySem L2 VL
def top (i : Nat) : Stmt := PySem.Challenge.pw_leastfloor_k52_trees_refused.main.body.getD i (.Pass ⟨0, 0, 0, 0⟩)
abbrev s_divided_up : Stmt := top 10
abbrev s_levels : Stmt := top 12
abbrev s_level_of : Stmt := top 13
abbrev s_tree_turns : Stmt := top 14
abbrev s_turns_shown : Stmt := top 15
abbrev s_shown_by_level : Stmt := top 16
abbrev s_why_tree : Stmt := top 17
abbrev s_l_cell_at : Stmt := top 19
abbrev s_l_mixed : Stmt := top 20
abbrev s_l_names : Stmt := top 21
abbrev s_l_behind : Stmt := top 22
abbrev s_l_benches : Stmt := top 23
abbrev s_l_asked : Stmt := top 24
abbrev s_l_refused : Stmt := top 25
abbrev s_l_bent : Stmt := top 26
abbrev s_law : Stmt := top 27
theorem sc_divided_up : FnScope ["total", "parts"] ["total", "parts"] (defScope s_divided_up) := ⟨rfl, rfl, rfl, by decide +kernel, rfl, by decide +kernel, by decide +kernel⟩
theorem sc_levels : FnScope ["behind", "later"] ["behind"] (defScope s_levels) := ⟨rfl, rfl, rfl, by decide +kernel, rfl, by decide +kernel, by decide +kernel⟩
theorem sc_level_of : FnScope ["behind", "work", "level", "later"] ["behind", "work"] (defScope s_level_of) := ⟨rfl, rfl, rfl, by decide +kernel, rfl, by decide +kernel, by decide +kernel⟩
theorem sc_tree_turns : FnScope ["behind", "benches", "heights", "waits", "left", "turns", "ready", "turn", "work"] ["behind", "benches"] (defScope s_tree_turns) := ⟨rfl, rfl, rfl, by decide +kernel, rfl, by decide +kernel, by decide +kernel⟩
theorem sc_turns_shown : FnScope ["behind", "benches", "level"] ["behind", "benches", "level"] (defScope s_turns_shown) := ⟨rfl, rfl, rfl, by decide +kernel, rfl, by decide +kernel, by decide +kernel⟩
theorem sc_shown_by_level : FnScope ["heights", "benches", "level", "high"] ["heights", "benches", "level"] (defScope s_shown_by_level) := ⟨rfl, rfl, rfl, by decide +kernel, rfl, by decide +kernel, by decide +kernel⟩
theorem sc_why_tree : FnScope ["behind", "benches", "turns", "heights", "level"] ["behind", "benches"] (defScope s_why_tree) := ⟨rfl, rfl, rfl, by decide +kernel, rfl, by decide +kernel, by decide +kernel⟩
theorem sc_l_cell_at : FnScope ["_law_script", "_law_k"] ["_law_script", "_law_k"] (defScope s_l_cell_at) := ⟨rfl, rfl, rfl, by decide +kernel, rfl, by decide +kernel, by decide +kernel⟩
theorem sc_l_mixed : FnScope ["_law_cell", "_law_k", "_law_number"] ["_law_cell", "_law_k"] (defScope s_l_mixed) := ⟨rfl, rfl, rfl, by decide +kernel, rfl, by decide +kernel, by decide +kernel⟩
theorem sc_l_names : FnScope ["_law_cell", "_law_many", "_law_points", "_law_k"] ["_law_cell", "_law_many"] (defScope s_l_names) := ⟨rfl, rfl, rfl, by decide +kernel, rfl, by decide +kernel, by decide +kernel⟩
theorem sc_l_behind : FnScope ["_law_script", "_law_most", "_law_first", "_law_many", "_law_cell", "_law_names_here", "_law_span", "_law_behind_here", "_law_k", "_law_back", "_law_number", "_law_at"] ["_law_script", "_law_most"] (defScope s_l_behind) := ⟨rfl, rfl, rfl, by decide +kernel, rfl, by decide +kernel, by decide +kernel⟩
theorem sc_l_benches : FnScope ["_law_script", "_law_number"] ["_law_script"] (defScope s_l_benches) := ⟨rfl, rfl, rfl, by decide +kernel, rfl, by decide +kernel, by decide +kernel⟩
theorem sc_l_asked : FnScope ["_law_k", "_law_behind_here", "_law_benches_here", "_law_height"] ["_law_k", "_law_behind_here", "_law_benches_here", "_law_height"] (defScope s_l_asked) := ⟨rfl, rfl, rfl, by decide +kernel, rfl, by decide +kernel, by decide +kernel⟩
theorem sc_l_refused : FnScope ["_law_k", "_law_behind_here", "_law_benches_here", "_law_height", "_law_caught", "e"] ["_law_k", "_law_behind_here", "_law_benches_here", "_law_height"] (defScope s_l_refused) := ⟨rfl, rfl, rfl, by decide +kernel, rfl, by decide +kernel, by decide +kernel⟩
theorem sc_l_bent : FnScope ["_law_behind_here", "_law_script", "_law_number", "_law_far", "_law_at", "_law_last", "_law_one"] ["_law_behind_here", "_law_script"] (defScope s_l_bent) := ⟨rfl, rfl, rfl, by decide +kernel, rfl, by decide +kernel, by decide +kernel⟩
theorem sc_law : FnScope ["_law_script", "_law_behind_here", "_law_bent_here", "_law_benches_here", "_law_height", "_law_handed", "_law_k"] ["_law_script"] (defScope s_law) := ⟨rfl, rfl, rfl, by decide +kernel, rfl, by decide +kernel, by decide +kernel⟩
structure Adr where
  f_divided_up : Addr
  d_divided_up : FuncData
  f_levels : Addr
  d_levels : FuncData
  f_level_of : Addr
  d_level_of : FuncData
  f_tree_turns : Addr
  d_tree_turns : FuncData
  f_turns_shown : Addr
  d_turns_shown : FuncData
  f_shown_by_level : Addr
  d_shown_by_level : FuncData
  f_why_tree : Addr
  d_why_tree : FuncData
  f_l_cell_at : Addr
  d_l_cell_at : FuncData
  f_l_mixed : Addr
  d_l_mixed : FuncData
  f_l_names : Addr
  d_l_names : FuncData
  f_l_behind : Addr
  d_l_behind : FuncData
  f_l_benches : Addr
  d_l_benches : FuncData
  f_l_asked : Addr
  d_l_asked : FuncData
  f_l_refused : Addr
  d_l_refused : FuncData
  f_l_bent : Addr
  d_l_bent : FuncData
  f_law : Addr
  d_law : FuncData
  c_NoOrder : Addr
  c_FloorError : Addr
  c_NoRoom : Addr
  c_NoText : Addr
  c_NoKind : Addr
  c_NoFloor : Addr
  c_NoRow : Addr
  c_NoName : Addr
structure Txt (K : PySem.W.Frag) (mg : Str → Option Value) (a : Adr) : Prop where
  F_divided_up : Fun K "divided_up" "divided_up" s_divided_up a.f_divided_up a.d_divided_up
  b_divided_up : Binds K a.d_divided_up ["total", "parts"] []
  m_divided_up : mg "divided_up" = some (.ref a.f_divided_up)
  F_levels : Fun K "levels" "levels" s_levels a.f_levels a.d_levels
  b_levels : Binds K a.d_levels ["behind"] []
  m_levels : mg "levels" = some (.ref a.f_levels)
  F_level_of : Fun K "level_of" "level_of" s_level_of a.f_level_of a.d_level_of
  b_level_of : Binds K a.d_level_of ["behind", "work"] []
  m_level_of : mg "level_of" = some (.ref a.f_level_of)
  F_tree_turns : Fun K "tree_turns" "tree_turns" s_tree_turns a.f_tree_turns a.d_tree_turns
  b_tree_turns : Binds K a.d_tree_turns ["behind", "benches"] []
  m_tree_turns : mg "tree_turns" = some (.ref a.f_tree_turns)
  F_turns_shown : Fun K "turns_shown" "turns_shown" s_turns_shown a.f_turns_shown a.d_turns_shown
  b_turns_shown : Binds K a.d_turns_shown ["behind", "benches", "level"] []
  m_turns_shown : mg "turns_shown" = some (.ref a.f_turns_shown)
  F_shown_by_level : Fun K "shown_by_level" "shown_by_level" s_shown_by_level a.f_shown_by_level a.d_shown_by_level
  b_shown_by_level : Binds K a.d_shown_by_level ["heights", "benches", "level"] []
  m_shown_by_level : mg "shown_by_level" = some (.ref a.f_shown_by_level)
  F_why_tree : Fun K "why_tree" "why_tree" s_why_tree a.f_why_tree a.d_why_tree
  b_why_tree : Binds K a.d_why_tree ["behind", "benches"] []
  m_why_tree : mg "why_tree" = some (.ref a.f_why_tree)
  F_l_cell_at : Fun K "_law_cell_at" "_law_cell_at" s_l_cell_at a.f_l_cell_at a.d_l_cell_at
  b_l_cell_at : Binds K a.d_l_cell_at ["_law_script", "_law_k"] []
  m_l_cell_at : mg "_law_cell_at" = some (.ref a.f_l_cell_at)
  F_l_mixed : Fun K "_law_mixed" "_law_mixed" s_l_mixed a.f_l_mixed a.d_l_mixed
  b_l_mixed : Binds K a.d_l_mixed ["_law_cell", "_law_k"] []
  m_l_mixed : mg "_law_mixed" = some (.ref a.f_l_mixed)
  F_l_names : Fun K "_law_names" "_law_names" s_l_names a.f_l_names a.d_l_names
  b_l_names : Binds K a.d_l_names ["_law_cell", "_law_many"] []
  m_l_names : mg "_law_names" = some (.ref a.f_l_names)
  F_l_behind : Fun K "_law_behind" "_law_behind" s_l_behind a.f_l_behind a.d_l_behind
  b_l_behind : Binds K a.d_l_behind ["_law_script", "_law_most"] []
  m_l_behind : mg "_law_behind" = some (.ref a.f_l_behind)
  F_l_benches : Fun K "_law_benches" "_law_benches" s_l_benches a.f_l_benches a.d_l_benches
  b_l_benches : Binds K a.d_l_benches ["_law_script"] []
  m_l_benches : mg "_law_benches" = some (.ref a.f_l_benches)
  F_l_asked : Fun K "_law_asked" "_law_asked" s_l_asked a.f_l_asked a.d_l_asked
  b_l_asked : Binds K a.d_l_asked ["_law_k", "_law_behind_here", "_law_benches_here", "_law_height"] []
  m_l_asked : mg "_law_asked" = some (.ref a.f_l_asked)
  F_l_refused : Fun K "_law_refused" "_law_refused" s_l_refused a.f_l_refused a.d_l_refused
  b_l_refused : Binds K a.d_l_refused ["_law_k", "_law_behind_here", "_law_benches_here", "_law_height"] []
  m_l_refused : mg "_law_refused" = some (.ref a.f_l_refused)
  F_l_bent : Fun K "_law_bent" "_law_bent" s_l_bent a.f_l_bent a.d_l_bent
  b_l_bent : Binds K a.d_l_bent ["_law_behind_here", "_law_script"] []
  m_l_bent : mg "_law_bent" = some (.ref a.f_l_bent)
  F_law : Fun K "law" "law" s_law a.f_law a.d_law
  b_law : Binds K a.d_law ["_law_script"] []
  m_law : mg "law" = some (.ref a.f_law)
  z_ValueError : mg "ValueError" = none
  z_isinstance : mg "isinstance" = none
  z_len : mg "len" = none
  z_list : mg "list" = none
  z_min : mg "min" = none
  z_range : mg "range" = none
  m_NoOrder : mg "NoOrder" = some (.ref a.c_NoOrder)
  m_FloorError : mg "FloorError" = some (.ref a.c_FloorError)
  m_NoRoom : mg "NoRoom" = some (.ref a.c_NoRoom)
  m_NoText : mg "NoText" = some (.ref a.c_NoText)
  m_NoKind : mg "NoKind" = some (.ref a.c_NoKind)
  m_NoFloor : mg "NoFloor" = some (.ref a.c_NoFloor)
  m_NoRow : mg "NoRow" = some (.ref a.c_NoRow)
  m_NoName : mg "NoName" = some (.ref a.c_NoName)
  q_NoOrder : PySem.W.excIn K a.c_NoOrder [.type "ValueError", .type "Exception", .type "BaseException", .type "object"] "ValueError.__new__" = true
  kx_NoOrder : ExcK K a.c_NoOrder
  x_NoOrder_FloorError : PySem.W.exmOne K (.ref a.c_NoOrder) (.ref a.c_FloorError) = some true
  i_NoOrder_NoRoom : PySem.W.kitOne K (.ref a.c_NoOrder) (.ref a.c_NoRoom) = some false
  i_NoOrder_NoText : PySem.W.kitOne K (.ref a.c_NoOrder) (.ref a.c_NoText) = some false
  i_NoOrder_NoKind : PySem.W.kitOne K (.ref a.c_NoOrder) (.ref a.c_NoKind) = some false
  i_NoOrder_NoFloor : PySem.W.kitOne K (.ref a.c_NoOrder) (.ref a.c_NoFloor) = some false
  i_NoOrder_NoRow : PySem.W.kitOne K (.ref a.c_NoOrder) (.ref a.c_NoRow) = some false
  i_NoOrder_NoName : PySem.W.kitOne K (.ref a.c_NoOrder) (.ref a.c_NoName) = some false
  i_NoOrder_NoOrder : PySem.W.kitOne K (.ref a.c_NoOrder) (.ref a.c_NoOrder) = some true
  i_NoOrder_ValueError : PySem.W.kitOne K (.ref a.c_NoOrder) (.type "ValueError") = some true
noncomputable section
theorem st_divided_up (x0 x1 : D) : stD 2 [false, false] [x0, x1] = [.bo x0, .bo x1] := rfl
def B_divided_up : DS := (sSeq (sIf (dTru (dMod (dVar 0) (dVar 1)))
      (sRet (dAdd (dFdiv (dVar 0) (dVar 1)) (dC (.int 1))))
      sPass)
    (sRet (dFdiv (dVar 0) (dVar 1))))
@[irreducible] def F_divided_up : List D → Option D := runD 2 [false, false] B_divided_up
theorem F_divided_up_def : F_divided_up = runD 2 [false, false] B_divided_up := by unfold F_divided_up; rfl
def BX_level_of : DS := (sSeq (sSet 2 (dC (.int 1)))
    (sSeq (sSet 3 (gScal (dIx (dVar 0) (dVar 1))))
    (sSeq (sWhile (dT (dEq true (dVar 3) (dNeg (dC (.int 1)))))
      (sSeq (sAug (fun x y => x + y) 2 (dC (.int 1)))
    (sSeq (sIf (dT (dGt (dVar 2) (dF1 lenD (dVar 0))))
      (sRaise [(dVar 1)])
      sPass)
    (sSet 3 (gScal (dIx (dVar 0) (dVar 3)))))))
    sNo)))
@[irreducible] def X_level_of : List D → Option D := runF 4 [false, false] BX_level_of
theorem X_level_of_def : X_level_of = runF 4 [false, false] BX_level_of := by unfold X_level_of; rfl
theorem st_level_of (x0 x1 : D) : stD 4 [false, false] [x0, x1] = [.bo x0, .bo x1, .un, .un] := rfl
def B_level_of : DS := (sSeq (sSet 2 (dC (.int 1)))
    (sSeq (sSet 3 (gScal (dIx (dVar 0) (dVar 1))))
    (sSeq (sWhile (dT (dEq true (dVar 3) (dNeg (dC (.int 1)))))
      (sSeq (sAug (fun x y => x + y) 2 (dC (.int 1)))
    (sSeq (sIf (dT (dGt (dVar 2) (dF1 lenD (dVar 0))))
      sNo
      sPass)
    (sSet 3 (gScal (dIx (dVar 0) (dVar 3)))))))
    (sRet (dVarI 2)))))
@[irreducible] def F_level_of : List D → Option D := runD 4 [false, false] B_level_of
theorem F_level_of_def : F_level_of = runD 4 [false, false] B_level_of := by unfold F_level_of; rfl
def BX_levels : DS := (sSeq (sFor (asL (dVarO 0)) (gN false 1)
      (sIf (dNot (dT (dChain (fun i j => decide (i ≤ j)) (fun i j => decide (i < j)) (dNeg (dC (.int 1))) (dVar 1) (dF1 lenD (dVar 0)))))
      (sRaise [(dVar 1)])
      sPass))
    (sXC 1 [0] (dRg1 (dF1 lenD (dVar 0))) (gN true 0) (dCall F_level_of (dCons (dVar 1) (dCons (dVar 0) dNil))) (dCall X_level_of (dCons (dVar 1) (dCons (dVar 0) dNil)))))
@[irreducible] def X_levels : List D → Option D := runF 2 [false] BX_levels
theorem X_levels_def : X_levels = runF 2 [false] BX_levels := by unfold X_levels; rfl
theorem st_levels (x0 : D) : stD 2 [false] [x0] = [.bo x0, .un] := rfl
def BX_tree_turns : DS := (sSeq (sX (dCall X_levels (dCons (dVar 0) dNil))) sNo)
@[irreducible] def X_tree_turns : List D → Option D := runF 9 [false, false] BX_tree_turns
theorem X_tree_turns_def : X_tree_turns = runF 9 [false, false] BX_tree_turns := by unfold X_tree_turns; rfl
theorem st_tree_turns (x0 x1 : D) : stD 9 [false, false] [x0, x1] = [.bo x0, .bo x1, .un, .un, .un, .un, .un, .un, .un] := rfl
theorem st_shown_by_level (x0 x1 x2 : D) : stD 4 [false, false, false] [x0, x1, x2] = [.bo x0, .bo x1, .bo x2, .un] := rfl
def B_shown_by_level : DS := (sSeq (sSet 3 (dF1 lenD (dLst (dComp 1 [2] (asL (dVar 0)) (gN false 0) (dT (dGe (dVar 0) (dVar 1))) (gScal (dVar 0))))))
    (sSeq (sIf (dOr (dT (dLt (dVar 2) (dC (.int 1)))) (dT (dEq false (dVar 3) (dC (.int 0)))))
      (sRet (dC (.int 0)))
      sPass)
    (sRet (dSub (dAdd (dCall F_divided_up (dCons (dVar 3) (dCons (dVar 1) dNil))) (dVar 2)) (dC (.int 1))))))
@[irreducible] def F_shown_by_level : List D → Option D := runD 4 [false, false, false] B_shown_by_level
theorem F_shown_by_level_def : F_shown_by_level = runD 4 [false, false, false] B_shown_by_level := by unfold F_shown_by_level; rfl
def BX_turns_shown : DS := (sX (dCall X_levels (dCons (dVar 0) dNil)))
@[irreducible] def X_turns_shown : List D → Option D := runF 3 [false, false, false] BX_turns_shown
theorem X_turns_shown_def : X_turns_shown = runF 3 [false, false, false] BX_turns_shown := by unfold X_turns_shown; rfl
theorem st_turns_shown (x0 x1 x2 : D) : stD 3 [false, false, false] [x0, x1, x2] = [.bo x0, .bo x1, .bo x2] := rfl
def BX_why_tree : DS := (sSeq (sX (dCall X_tree_turns (dCons (dVar 0) (dCons (dVar 1) dNil)))) sNo)
@[irreducible] def X_why_tree : List D → Option D := runF 5 [false, false] BX_why_tree
theorem X_why_tree_def : X_why_tree = runF 5 [false, false] BX_why_tree := by unfold X_why_tree; rfl
theorem st_why_tree (x0 x1 : D) : stD 5 [false, false] [x0, x1] = [.bo x0, .bo x1, .un, .un, .un] := rfl
theorem st_l_cell_at (x0 x1 : D) : stD 2 [false, false] [x0, x1] = [.bo x0, .bo x1] := rfl
def B_l_cell_at : DS := (sSeq (sIf (dT (dLt (dVar 1) (dF1 lenD (dVar 0))))
      (sRet (gScal (dIx (dVar 0) (dVar 1))))
      sPass)
    (sRet (dC (.int 0))))
@[irreducible] def F_l_cell_at : List D → Option D := runD 2 [false, false] B_l_cell_at
theorem F_l_cell_at_def : F_l_cell_at = runD 2 [false, false] B_l_cell_at := by unfold F_l_cell_at; rfl
theorem st_l_mixed (x0 x1 : D) : stD 3 [false, false] [x0, x1] = [.bo x0, .bo x1, .un] := rfl
def B_l_mixed : DS := (sSeq (sSet 2 (dMod (dAdd (dAdd (dMul (dVar 0) (dC (.int 48271))) (dMul (dMul (dVar 1) (dVar 1)) (dC (.int 69621)))) (dC (.int 3))) (dC (.int 2147483647))))
    (sRet (dMod (dMul (dVar 2) (dVar 2)) (dC (.int 2147483629)))))
@[irreducible] def F_l_mixed : List D → Option D := runD 3 [false, false] B_l_mixed
theorem F_l_mixed_def : F_l_mixed = runD 3 [false, false] B_l_mixed := by unfold F_l_mixed; rfl
theorem st_l_names (x0 x1 : D) : stD 4 [false, false] [x0, x1] = [.bo x0, .bo x1, .un, .un] := rfl
def B_l_names : DS := (sSeq (sSetO 2 dNil)
    (sSeq (sFor (dRg1 (dVar 1)) (gN true 3)
      (sIns 2 (dMod (dCall F_l_mixed (dCons (dVar 0) (dCons (dVar 3) dNil))) (dAdd (dVar 3) (dC (.int 1)))) (dVarI 3)))
    (sFrz 2 (sRet (dVarI 2)))))
@[irreducible] def F_l_names : List D → Option D := runD 4 [false, false] B_l_names
theorem F_l_names_def : F_l_names = runD 4 [false, false] B_l_names := by unfold F_l_names; rfl
theorem st_l_behind (x0 x1 : D) : stD 12 [false, false] [x0, x1] = [.bo x0, .bo x1, .un, .un, .un, .un, .un, .un, .un, .un, .un, .un] := rfl
def B_l_behind : DS := (sSeq (sSet 2 (dCall F_l_cell_at (dCons (dVar 0) (dCons (dC (.int 0)) dNil))))
    (sSeq (sSet 3 (dIx (dLst (dCons (dMod (dFdiv (dVar 2) (dC (.int 3))) (dAdd (dVar 1) (dC (.int 1)))) (dCons (gScal (dVar 1)) (dCons (dMod (dFdiv (dVar 2) (dC (.int 3))) (dAdd (dVar 1) (dC (.int 1)))) dNil)))) (dMod (dVar 2) (dC (.int 3)))))
    (sSeq (sSet 4 (dCall F_l_cell_at (dCons (dVar 0) (dCons (dC (.int 1)) dNil))))
    (sSeq (sSet 5 (dCall F_l_names (dCons (dVar 4) (dCons (dVar 3) dNil))))
    (sSeq (sSet 6 (dIx (dLst (dCons (dC (.int 1)) (dCons (dC (.int 2)) (dCons (dC (.int 5)) (dCons (gScal (dVar 1)) dNil))))) (dMod (dVar 4) (dC (.int 4)))))
    (sSeq (sSetO 7 (dRep (dCons (dNeg (dC (.int 1))) dNil) (dVar 3)))
    (sSeq (sFor (dRg2 (dC (.int 1)) (dVar 3)) (gN true 8)
      (sSeq (sSet 9 (dMod (dCall F_l_mixed (dCons (dVar 4) (dCons (dAdd (dC (.int 60)) (dVar 8)) dNil))) (dMin2 (dVar 8) (dVar 6))))
    (sPut 7 (dIx (dVar 5) (dVar 8)) (dIx (dVarI 5) (dIx (dLst (dCons (dSub (dSub (dVar 8) (dC (.int 1))) (dVar 9)) (dCons (dVarI 9) dNil))) (dMod (dFdiv (dVar 4) (dC (.int 4))) (dC (.int 2))))))))
    (sSeq (sFor (dRg2 (dC (.int 3)) (dMin2 (dC (.int 63)) (dF1 lenD (dVar 0)))) (gN true 8)
      (sSeq (sSet 10 (dCall F_l_mixed (dCons (dIx (dVar 0) (dVar 8)) (dCons (dVar 8) dNil))))
    (sIf (dT (dGt (dVar 3) (dC (.int 1))))
      (sSeq (sSet 11 (dAdd (dC (.int 1)) (dMod (dMod (dMul (dVar 10) (dC (.int 16807))) (dC (.int 2147483587))) (dSub (dVar 3) (dC (.int 1))))))
    (sSeq (sSet 9 (dMod (dMod (dMul (dVar 10) (dC (.int 69621))) (dC (.int 1000003))) (dMin2 (dVar 11) (dVar 6))))
    (sSeq (sPut 7 (dIx (dVar 5) (dVar 11)) (dIx (dVarI 5) (dIx (dLst (dCons (dSub (dSub (dVar 11) (dC (.int 1))) (dVar 9)) (dCons (dVarI 9) dNil))) (dMod (dFdiv (dVar 4) (dC (.int 4))) (dC (.int 2))))))
    (sIf (dT (dEq false (dMod (dVar 10) (dIx (dLst (dCons (dC (.int 40)) (dCons (dC (.int 40)) (dCons (dC (.int 6)) dNil)))) (dMod (dFdiv (dVar 4) (dC (.int 8))) (dC (.int 3))))) (dC (.int 0))))
      (sPut 7 (dIx (dVar 5) (dVar 11)) (dNeg (dC (.int 1))))
      sPass))))
      sPass)))
    (sFrz 7 (sRet (dVarI 7)))))))))))
@[irreducible] def F_l_behind : List D → Option D := runD 12 [false, false] B_l_behind
theorem F_l_behind_def : F_l_behind = runD 12 [false, false] B_l_behind := by unfold F_l_behind; rfl
theorem st_l_benches (x0 : D) : stD 2 [false] [x0] = [.bo x0, .un] := rfl
def B_l_benches : DS := (sSeq (sSet 1 (dCall F_l_mixed (dCons (dCall F_l_cell_at (dCons (dVar 0) (dCons (dC (.int 2)) dNil))) (dCons (dC (.int 99)) dNil))))
    (sRet (dIx (dLst (dCons (dAdd (dC (.int 1)) (dMod (dFdiv (dVar 1) (dC (.int 4))) (dC (.int 4)))) (dCons (dAdd (dC (.int 1)) (dMod (dFdiv (dVar 1) (dC (.int 4))) (dC (.int 20)))) (dCons (dC (.int 20)) (dCons (dC (.int 2)) dNil))))) (dMod (dVar 1) (dC (.int 4))))))
@[irreducible] def F_l_benches : List D → Option D := runD 2 [false] B_l_benches
theorem F_l_benches_def : F_l_benches = runD 2 [false] B_l_benches := by unfold F_l_benches; rfl
def BX_l_asked : DS := (sSeq (sIf (dT (dEq false (dVar 0) (dC (.int 0))))
      (sX (dCall X_levels (dCons (dVar 1) dNil)))
      sPass)
    (sSeq (sIf (dT (dEq false (dVar 0) (dC (.int 1))))
      (sX (dCall X_tree_turns (dCons (dVar 1) (dCons (dVar 2) dNil))))
      sPass)
    (sSeq (sIf (dT (dEq false (dVar 0) (dC (.int 2))))
      (sX (dCall X_turns_shown (dCons (dVar 1) (dCons (dVar 2) (dCons (dVar 3) dNil)))))
      sPass)
    (sIf (dT (dEq false (dVar 0) (dC (.int 3))))
      (sX (dCall X_why_tree (dCons (dVar 1) (dCons (dVar 2) dNil))))
      sPass))))
@[irreducible] def X_l_asked : List D → Option D := runF 4 [false, false, false, false] BX_l_asked
theorem X_l_asked_def : X_l_asked = runF 4 [false, false, false, false] BX_l_asked := by unfold X_l_asked; rfl
theorem st_l_asked (x0 x1 x2 x3 : D) : stD 4 [false, false, false, false] [x0, x1, x2, x3] = [.bo x0, .bo x1, .bo x2, .bo x3] := rfl
theorem st_l_refused (x0 x1 x2 x3 : D) : stD 6 [false, false, false, false] [x0, x1, x2, x3] = [.bo x0, .bo x1, .bo x2, .bo x3, .un, .un] := rfl
def B_l_refused : DS := (sSeq (sSet 4 (dC .non))
    (sRefused 4 (dCall X_l_asked (dCons (dVar 0) (dCons (dVar 1) (dCons (dVar 2) (dCons (dVar 3) dNil)))))))
@[irreducible] def F_l_refused : List D → Option D := runD 6 [false, false, false, false] B_l_refused
theorem F_l_refused_def : F_l_refused = runD 6 [false, false, false, false] B_l_refused := by unfold F_l_refused; rfl
theorem st_l_bent (x0 x1 : D) : stD 7 [true, false] [x0, x1] = [.pu x0, .bo x1, .un, .un, .un, .un, .un] := rfl
def B_l_bent : DS := (sSeq (sSet 2 (dCall F_l_mixed (dCons (dCall F_l_cell_at (dCons (dVar 1) (dCons (dC (.int 2)) dNil))) (dCons (dC (.int 98)) dNil))))
    (sSeq (sSet 3 (dMod (dCall F_l_cell_at (dCons (dVar 1) (dCons (dC (.int 3)) dNil))) (dPow (dC (.int 10)) (dC (.int 50)))))
    (sSeq (sSet 4 (dMod (dFdiv (dVar 2) (dC (.int 8))) (dF1 lenD (dVar 0))))
    (sSeq (sIf (dT (dLt (dMod (dVar 2) (dC (.int 8))) (dC (.int 4))))
      (sSeq (sSet 5 (dVarI 4))
    (sSeq (sWhile (dT (dEq true (dIx (dVar 0) (dVar 5)) (dNeg (dC (.int 1)))))
      (sSet 5 (dIx (dVarI 0) (dVar 5))))
    (sRet (dLst (dCat (dLst (dCat (dLst (dSl (dVarI 0) oNone (oSome (dVar 5)))) (dLst (dCons (dVarI 4) dNil)))) (dLst (dSl (dVarI 0) (oSome (dAdd (dVar 5) (dC (.int 1)))) oNone)))))))
      sPass)
    (sSeq (sSet 6 (dIx (dLst (dCons (dNeg (dC (.int 2))) (dCons (dSub (dNeg (dC (.int 2))) (dVar 3)) (dCons (dF1 lenD (dVar 0)) (dCons (dAdd (dF1 lenD (dVar 0)) (dVar 3)) dNil))))) (dSub (dMod (dVar 2) (dC (.int 8))) (dC (.int 4)))))
    (sRet (dLst (dCat (dLst (dCat (dLst (dSl (dVarI 0) oNone (oSome (dVar 4)))) (dLst (dCons (dVarI 6) dNil)))) (dLst (dSl (dVarI 0) (oSome (dAdd (dVar 4) (dC (.int 1)))) oNone))))))))))
@[irreducible] def F_l_bent : List D → Option D := runD 7 [true, false] B_l_bent
theorem F_l_bent_def : F_l_bent = runD 7 [true, false] B_l_bent := by unfold F_l_bent; rfl
theorem st_law (x0 : D) : stD 7 [false] [x0] = [.bo x0, .un, .un, .un, .un, .un, .un] := rfl
def B_law : DS := (sSeq (sSet 1 (dCall F_l_behind (dCons (dVar 0) (dCons (dC (.int 40)) dNil))))
    (sSeq (sIf (dT (dEq false (dVar 1) (dLst dNil)))
      (sSet 1 (dLst (dCons (dNeg (dC (.int 1))) dNil)))
      sPass)
    (sSeq (sSet 2 (dCall F_l_bent (dCons (dVarI 1) (dCons (dVar 0) dNil))))
    (sSeq (sSet 3 (dCall F_l_benches (dCons (dVar 0) dNil)))
    (sSeq (sSet 4 (dMod (dCall F_l_mixed (dCons (dCall F_l_cell_at (dCons (dVar 0) (dCons (dC (.int 2)) dNil))) (dCons (dC (.int 97)) dNil))) (dC (.int 61))))
    (sSeq (sSet 5 (dLst (dLof (dVarI 2))))
    (sSeq (sFor (dRg1 (dC (.int 4))) (gN true 6)
      (sIf (dOr (dNot (dTru (dCall F_l_refused (dCons (dVar 6) (dCons (dVar 5) (dCons (dVar 3) (dCons (dVar 4) dNil))))))) (dT (dEq true (dVar 5) (dVar 2))))
      (sRet (dC (.bl false)))
      sPass))
    (sRet (dC (.bl true))))))))))
@[irreducible] def F_law : List D → Option D := runD 7 [false] B_law
theorem F_law_def : F_law = runD 7 [false] B_law := by unfold F_law; rfl
end
section
variable {P : Program} {w : World} {K : PySem.W.Frag} {mg : Str → Option Value} {base : Heap} {ad : Adr}
theorem ok_divided_up (T : Txt K mg ad) : FnOk P w K mg base CX0 1 ad.f_divided_up ad.d_divided_up ["total", "parts"] (spD .v K [false, false] F_divided_up) := by
  rw [F_divided_up_def]
  exact Fun.okD (N := ["total", "parts"]) T.F_divided_up sc_divided_up [false, false] rfl B_divided_up fun cdv A outer s H E hr => ⟨_,
    (pss_cons (ps_if (pt_truthK (K := K) rfl (pe_op op_mod (pv 0) (pv 1)) (fun _ => rfl))
      (pss_one (ps_ret (pe_op op_add (pe_op op_fdivB (pv 0) (pv 1)) pe_int)))
      pss_nil)
    (pss_one (ps_ret (pe_op op_fdivB (pv 0) (pv 1))))),
    (ss_seq (ss_if (st_tru (K := K) (SemI.b (si_mod (sb_var 0) (sb_var 1))))
      (ss_ret (si_add (SemI.b (si_fdiv (sb_var 0) (sb_var 1))) (SemI.b si_int)))
      ss_pass)
    (ss_ret (si_fdiv (sb_var 0) (sb_var 1))))⟩
theorem okX_level_of (T : Txt K mg ad) : FnOk P w K mg base (CXE P w) 1 ad.f_level_of ad.d_level_of ["behind", "work"] (spX K [false, false] ad.c_NoOrder X_level_of) := by
  rw [X_level_of_def]
  exact Fun.okX (N := ["behind", "work", "level", "later"]) T.F_level_of sc_level_of [false, false] rfl BX_level_of fun cdv A outer s H E hr => ⟨_,
    (pss_cons (ps_set (i := 2) sc_level_of.nd rfl (Or.inl rfl) pe_int)
    (pss_cons (ps_set (i := 3) sc_level_of.nd rfl (Or.inl rfl) (pe_ix (ix_seqK (K := K) rfl) (pv 0) (pv 1) (fun _ _ => rfl)))
    (pss_cons (ps_while PassesOwn.leaving (pt_cmpR (op_neD (K := K) hr.units) (pv 3) (pe_un un_neg pe_int) (nomark _))
      (pss_cons (ps_aug (i := 2) sc_level_of.nd rfl (Or.inl rfl) pe_int ip_add)
    (pss_cons (ps_if (pt_cmpR op_gt (pv 2) (pe_callB (call_lenK (K := K) rfl) rfl T.z_len bt_len (pa_cons (pv 0) pa_nil)) (nomark _))
      (pss_one (ps_raise (E := E) (C := ad.c_NoOrder) (fun _ _ h => h) ⟨rfl, rfl, rfl⟩ rfl PySem.F.excBase_ValueError rfl T.m_NoOrder T.q_NoOrder (pa_cons (pe_join (PParts.text (by decide) (PParts.val (pv 1) (PParts.text (by decide) PParts.nil)))) pa_nil)))
      pss_nil)
    (pss_one (ps_set (i := 3) sc_level_of.nd rfl (Or.inl rfl) (pe_ix (ix_seqK (K := K) rfl) (pv 0) (pv 3) (fun _ _ => rfl)))))))
    (pss_one ps_never)))),
    (ss_seq (ss_set si_int)
    (ss_seq (ss_set (SemB.i (sb_ix (sb_var 0) (sb_var 1))))
    (ss_seq (ss_while (st_test (SemI.b (si_eq (neg := true) (sb_var 3) (SemI.b (si_neg (SemI.b si_int))))))
      (ss_seq (ss_aug (SemI.b si_int))
    (ss_seq (ss_if (st_test (SemI.b (si_gt (sb_var 2) (SemI.b (si_len (sb_var 0))))))
      (ss_raiseJ (SemJ.cons (sb_var 1) SemJ.nil))
      ss_pass)
    (ss_set (SemB.i (sb_ix (sb_var 0) (sb_var 3)))))))
    ss_never)))⟩
theorem ok_level_of (T : Txt K mg ad) : FnOk P w K mg base CX0 1 ad.f_level_of ad.d_level_of ["behind", "work"] (spD .v K [false, false] F_level_of) := by
  rw [F_level_of_def]
  exact Fun.okD (N := ["behind", "work", "level", "later"]) T.F_level_of sc_level_of [false, false] rfl B_level_of fun cdv A outer s H E hr => ⟨_,
    (pss_cons (ps_set (i := 2) sc_level_of.nd rfl (Or.inl rfl) pe_int)
    (pss_cons (ps_set (i := 3) sc_level_of.nd rfl (Or.inl rfl) (pe_ix (ix_seqK (K := K) rfl) (pv 0) (pv 1) (fun _ _ => rfl)))
    (pss_cons (ps_while PassesOwn.never (pt_cmpR (op_neD (K := K) hr.units) (pv 3) (pe_un un_neg pe_int) (nomark _))
      (pss_cons (ps_aug (i := 2) sc_level_of.nd rfl (Or.inl rfl) pe_int ip_add)
    (pss_cons (ps_if (pt_cmpR op_gt (pv 2) (pe_callB (call_lenK (K := K) rfl) rfl T.z_len bt_len (pa_cons (pv 0) pa_nil)) (nomark _))
      (pss_one ps_never)
      pss_nil)
    (pss_one (ps_set (i := 3) sc_level_of.nd rfl (Or.inl rfl) (pe_ix (ix_seqK (K := K) rfl) (pv 0) (pv 3) (fun _ _ => rfl)))))))
    (pss_one (ps_ret (pv 2)))))),
    (ss_seq (ss_set si_int)
    (ss_seq (ss_set (SemB.i (sb_ix (sb_var 0) (sb_var 1))))
    (ss_seq (ss_while (st_test (SemI.b (si_eq (neg := true) (sb_var 3) (SemI.b (si_neg (SemI.b si_int))))))
      (ss_seq (ss_aug (SemI.b si_int))
    (ss_seq (ss_if (st_test (SemI.b (si_gt (sb_var 2) (SemI.b (si_len (sb_var 0))))))
      ss_never
      ss_pass)
    (ss_set (SemB.i (sb_ix (sb_var 0) (sb_var 3)))))))
    (ss_ret (si_var 2)))))⟩
theorem okX_levels (T : Txt K mg ad) : FnOk P w K mg base (CXE P w) 2 ad.f_levels ad.d_levels ["behind"] (spX K [false] ad.c_NoOrder X_levels) := by
  rw [X_levels_def]
  exact Fun.okX (N := ["behind", "later"]) T.F_levels sc_levels [false] rfl BX_levels fun cdv A outer s H E hr => ⟨_,
    (pss_cons (ps_for PassesOwn.leaving rfl (pi_listK (K := K) rfl (pv 0)) (pg_name (i := 1) sc_levels.nd rfl (Or.inl rfl))
      (pss_one (ps_if (pt_not (pt_chain op_le op_lt (pe_un un_neg pe_int) (pv 1) (pe_callB (call_lenK (K := K) rfl) rfl T.z_len bt_len (pa_cons (pv 0) pa_nil))))
      (pss_one (ps_raise (E := E) (C := ad.c_NoOrder) (fun _ _ h => h) ⟨rfl, rfl, rfl⟩ rfl PySem.F.excBase_ValueError rfl T.m_NoOrder T.q_NoOrder (pa_cons (pe_join (PParts.text (by decide) (PParts.val (pv 1) PParts.nil))) pa_nil)))
      pss_nil)))
    (pss_one (ps_ret (pe_cX (E := E) (fun _ _ h => h) ⟨rfl, rfl, rfl⟩ rfl (pi_range1 rfl T.z_range (pa_cons (pe_callB (call_lenK (K := K) rfl) rfl T.z_len bt_len (pa_cons (pv 0) pa_nil)) pa_nil)) (ts := ["work"]) (zs := ["behind"]) (k := 1) (is := [0]) rfl (.cons rfl .nil) (.cons rfl (Or.inl rfl) rfl (by first | exact Or.inl rfl | exact Or.inr rfl) .nil) rfl (low_name (by decide)) (fun _ _ _ _ _ _ => (pgbX (by decide +kernel) rfl rfl)) (fun _ _ _ _ _ _ px => (pe_or2 (pe_call (ok_level_of T) (hr.mono (by decide)) rfl T.m_level_of T.F_level_of.kp T.b_level_of .nil pass0 (pa_cons (pv 1) (pa_cons (pv 0) pa_nil))) (pe_call (okX_level_of T) (hr.mono (by decide)) rfl T.m_level_of T.F_level_of.kp T.b_level_of .nil px (pa_cons (pv 1) (pa_cons (pv 0) pa_nil))))) rfl (by decide +kernel) rfl (by decide +kernel))))),
    (ss_seq (ss_for (m := false) (sw_listO (so_var 0)) (sg_name 1)
      (ss_if (st_not (st_test (SemI.b (si_chain (p := fun i j => decide (i ≤ j)) (q := fun i j => decide (i < j)) (SemI.b (si_neg (SemI.b si_int))) (sb_var 1) (SemI.b (si_len (sb_var 0)))))))
      (ss_raiseJ (SemJ.cons (sb_var 1) SemJ.nil))
      ss_pass))
    (ss_xcomp (m := true) (k := 1) (cs := [0]) (SemW.c (sw_range1 (SemI.b (si_len (sb_var 0))))) (sg_name 0) (si_call (sa_any (sb_var 1) (sa_any (sb_var 0) sa_nil))) (sa_any (sb_var 1) (sa_any (sb_var 0) sa_nil))))⟩
theorem okX_tree_turns (T : Txt K mg ad) : FnOk P w K mg base (CXE P w) 3 ad.f_tree_turns ad.d_tree_turns ["behind", "benches"] (spX K [false, false] ad.c_NoOrder X_tree_turns) := by
  rw [X_tree_turns_def]
  exact Fun.okX (N := ["behind", "benches", "heights", "waits", "left", "turns", "ready", "turn", "work"]) T.F_tree_turns sc_tree_turns [false, false] rfl BX_tree_turns fun cdv A outer s H E hr => ⟨_,
    (pss_cons (ps_set (i := 2) sc_tree_turns.nd rfl (Or.inr rfl) (pe_call (okX_levels T) (hr.mono (by decide)) rfl T.m_levels T.F_levels.kp T.b_levels .nil (XLink.passes (E := E) (fun _ _ h => h) ⟨rfl, rfl, rfl⟩) (pa_cons (pv 0) pa_nil))) pss_never),
    (ss_seq (ss_xset (sa_any (sb_var 0) sa_nil)) ss_never)⟩
theorem ok_shown_by_level (T : Txt K mg ad) : FnOk P w K mg base CX0 2 ad.f_shown_by_level ad.d_shown_by_level ["heights", "benches", "level"] (spD .v K [false, false, false] F_shown_by_level) := by
  rw [F_shown_by_level_def]
  exact Fun.okD (N := ["heights", "benches", "level", "high"]) T.F_shown_by_level sc_shown_by_level [false, false, false] rfl B_shown_by_level fun cdv A outer s H E hr => ⟨_,
    (pss_cons (ps_set (i := 3) sc_shown_by_level.nd rfl (Or.inl rfl) (pe_callB (call_lenK (K := K) rfl) rfl T.z_len bt_len (pa_cons (pe_cN1 rfl (pi_listK (K := K) rfl (pv 0)) (ts := ["height"]) (zs := ["level"]) (k := 1) (is := [2]) rfl (.cons rfl .nil) (.cons rfl (Or.inl rfl) rfl (by first | exact Or.inl rfl | exact Or.inr rfl) .nil) rfl (low_name (by decide)) (fun _ _ _ _ _ => (pgb (by decide +kernel) rfl rfl)) (fun _ _ _ _ _ => (pt_cmpR op_ge (pv 0) (pv 1) (nomark _))) (fun _ _ _ _ _ => (pv 0)) rfl (by decide +kernel) rfl (by decide +kernel)) pa_nil)))
    (pss_cons (ps_if (PW.pt (pw_or (pt_cmpR op_lt (pv 2) pe_int (nomark _)) (pw_or1 (pt_cmpR (op_eqD (K := K) hr.units) (pv 3) pe_int (nomark _)))))
      (pss_one (ps_ret pe_int))
      pss_nil)
    (pss_one (ps_ret (pe_op op_sub (pe_op op_add (pe_call (ok_divided_up T) (hr.mono (by decide)) rfl T.m_divided_up T.F_divided_up.kp T.b_divided_up .nil pass0 (pa_cons (pv 3) (pa_cons (pv 1) pa_nil))) (pv 2)) pe_int))))),
    (ss_seq (ss_set (si_len (SemI.b (SemF.l (sf_comp (m := false) (k := 1) (cs := [2]) (swc_listB (sb_var 0)) (sg_name 0) (st_test (SemI.b (si_ge (sb_var 0) (sb_var 1)))) (SemB.i (sb_var 0)))))))
    (ss_seq (ss_if (st_or (st_test (SemI.b (si_lt (sb_var 2) (SemI.b si_int)))) (st_test (SemI.b (si_eq (neg := false) (sb_var 3) (SemI.b si_int)))))
      (ss_ret si_int)
      ss_pass)
    (ss_ret (si_sub (SemI.b (si_add (SemI.b (si_call (sa_any (sb_var 3) (sa_any (sb_var 1) sa_nil)))) (sb_var 2))) (SemI.b si_int)))))⟩
theorem okX_turns_shown (T : Txt K mg ad) : FnOk P w K mg base (CXE P w) 3 ad.f_turns_shown ad.d_turns_shown ["behind", "benches", "level"] (spX K [false, false, false] ad.c_NoOrder X_turns_shown) := by
  rw [X_turns_shown_def]
  exact Fun.okX (N := ["behind", "benches", "level"]) T.F_turns_shown sc_turns_shown [false, false, false] rfl BX_turns_shown fun cdv A outer s H E hr => ⟨_,
    (pss_one (ps_ret (pe_call (ok_shown_by_level T) (hr.mono (by decide)) rfl T.m_shown_by_level T.F_shown_by_level.kp T.b_shown_by_level .nil pass0 (pa_cons (pe_call (okX_levels T) (hr.mono (by decide)) rfl T.m_levels T.F_levels.kp T.b_levels .nil (XLink.passes (E := E) (fun _ _ h => h) ⟨rfl, rfl, rfl⟩) (pa_cons (pv 0) pa_nil)) (pa_cons (pv 1) (pa_cons (pv 2) pa_nil)))))),
    (ss_xret2 (sx_arg (sx_c (sa_any (sb_var 0) sa_nil))))⟩
theorem okX_why_tree (T : Txt K mg ad) : FnOk P w K mg base (CXE P w) 4 ad.f_why_tree ad.d_why_tree ["behind", "benches"] (spX K [false, false] ad.c_NoOrder X_why_tree) := by
  rw [X_why_tree_def]
  exact Fun.okX (N := ["behind", "benches", "turns", "heights", "level"]) T.F_why_tree sc_why_tree [false, false] rfl BX_why_tree fun cdv A outer s H E hr => ⟨_,
    (pss_cons (ps_set (i := 2) sc_why_tree.nd rfl (Or.inl rfl) (pe_callB (call_lenK (K := K) rfl) rfl T.z_len bt_len (pa_cons (pe_call (okX_tree_turns T) (hr.mono (by decide)) rfl T.m_tree_turns T.F_tree_turns.kp T.b_tree_turns .nil (XLink.passes (E := E) (fun _ _ h => h) ⟨rfl, rfl, rfl⟩) (pa_cons (pv 0) (pa_cons (pv 1) pa_nil))) pa_nil))) pss_never),
    (ss_seq (ss_xset2 (sx_argB (sx_c (sa_any (sb_var 0) (sa_any (sb_var 1) sa_nil))))) ss_never)⟩
theorem ok_l_cell_at (T : Txt K mg ad) : FnOk P w K mg base CX0 1 ad.f_l_cell_at ad.d_l_cell_at ["_law_script", "_law_k"] (spD .v K [false, false] F_l_cell_at) := by
  rw [F_l_cell_at_def]
  exact Fun.okD (N := ["_law_script", "_law_k"]) T.F_l_cell_at sc_l_cell_at [false, false] rfl B_l_cell_at fun cdv A outer s H E hr => ⟨_,
    (pss_cons (ps_if (pt_cmpR op_lt (pv 1) (pe_callB (call_lenK (K := K) rfl) rfl T.z_len bt_len (pa_cons (pv 0) pa_nil)) (nomark _))
      (pss_one (ps_ret (pe_ix (ix_seqK (K := K) rfl) (pv 0) (pv 1) (fun _ _ => rfl))))
      pss_nil)
    (pss_one (ps_ret pe_int))),
    (ss_seq (ss_if (st_test (SemI.b (si_lt (sb_var 1) (SemI.b (si_len (sb_var 0))))))
      (ss_ret (SemB.i (sb_ix (sb_var 0) (sb_var 1))))
      ss_pass)
    (ss_ret si_int))⟩
theorem ok_l_mixed (T : Txt K mg ad) : FnOk P w K mg base CX0 1 ad.f_l_mixed ad.d_l_mixed ["_law_cell", "_law_k"] (spD .v K [false, false] F_l_mixed) := by
  rw [F_l_mixed_def]
  exact Fun.okD (N := ["_law_cell", "_law_k", "_law_number"]) T.F_l_mixed sc_l_mixed [false, false] rfl B_l_mixed fun cdv A outer s H E hr => ⟨_,
    (pss_cons (ps_set (i := 2) sc_l_mixed.nd rfl (Or.inl rfl) (pe_op op_mod (pe_op op_add (pe_op op_add (pe_op op_mulB (pv 0) pe_int) (pe_op op_mulB (pe_op op_mulB (pv 1) (pv 1)) pe_int)) pe_int) pe_int))
    (pss_one (ps_ret (pe_op op_mod (pe_op op_mulB (pv 2) (pv 2)) pe_int)))),
    (ss_seq (ss_set (si_mod (SemI.b (si_add (SemI.b (si_add (SemI.b (si_mul (sb_var 0) (SemI.b si_int))) (SemI.b (si_mul (SemI.b (si_mul (sb_var 1) (sb_var 1))) (SemI.b si_int))))) (SemI.b si_int))) (SemI.b si_int)))
    (ss_ret (si_mod (SemI.b (si_mul (sb_var 2) (sb_var 2))) (SemI.b si_int))))⟩
theorem ok_l_names (T : Txt K mg ad) : FnOk P w K mg base CX0 2 ad.f_l_names ad.d_l_names ["_law_cell", "_law_many"] (spD .v K [false, false] F_l_names) := by
  rw [F_l_names_def]
  exact Fun.okD (N := ["_law_cell", "_law_many", "_law_points", "_law_k"]) T.F_l_names sc_l_names [false, false] rfl B_l_names fun cdv A outer s H E hr => ⟨_,
    (pss_cons (ps_set (i := 2) sc_l_names.nd rfl (Or.inl rfl) (pe_lst pa_nil))
    (pss_cons (ps_for PassesOwn.never rfl (pi_range1 rfl T.z_range (pa_cons (pv 1) pa_nil)) (pg_name (i := 3) sc_l_names.nd rfl (Or.inl rfl))
      (pss_one (ps_expr (pe_bm PySem.F.plainAttrs_list PySem.F.slot_list_insert PySem.F.type_list_insert mt_insert (pv 2) (pa_cons (pe_op op_mod (pe_call (ok_l_mixed T) (hr.mono (by decide)) rfl T.m_l_mixed T.F_l_mixed.kp T.b_l_mixed .nil pass0 (pa_cons (pv 0) (pa_cons (pv 3) pa_nil))) (pe_op op_add (pv 3) pe_int)) (pa_cons (pv 3) pa_nil))))))
    (pss_one (ps_ret (pv 2))))),
    (ss_seq (ss_setO (sf_lst (n := 0) sa_nil (by decide)))
    (ss_seq (ss_for (m := true) (sw_range1 (sb_var 1)) (sg_name 3)
      (ss_ins (SemI.b (si_mod (SemI.b (si_call (sa_any (sb_var 0) (sa_any (sb_var 3) sa_nil)))) (SemI.b (si_add (sb_var 3) (SemI.b si_int))))) (si_var 3)))
    (ss_frz 2 (ss_ret (si_var 2)))))⟩
theorem ok_l_behind (T : Txt K mg ad) : FnOk P w K mg base CX0 3 ad.f_l_behind ad.d_l_behind ["_law_script", "_law_most"] (spD .v K [false, false] F_l_behind) := by
  rw [F_l_behind_def]
  exact Fun.okD (N := ["_law_script", "_law_most", "_law_first", "_law_many", "_law_cell", "_law_names_here", "_law_span", "_law_behind_here", "_law_k", "_law_back", "_law_number", "_law_at"]) T.F_l_behind sc_l_behind [false, false] rfl B_l_behind fun cdv A outer s H E hr => ⟨_,
    (pss_cons (ps_set (i := 2) sc_l_behind.nd rfl (Or.inl rfl) (pe_call (ok_l_cell_at T) (hr.mono (by decide)) rfl T.m_l_cell_at T.F_l_cell_at.kp T.b_l_cell_at .nil pass0 (pa_cons (pv 0) (pa_cons pe_int pa_nil))))
    (pss_cons (ps_set (i := 3) sc_l_behind.nd rfl (Or.inl rfl) (pe_ix (ix_seqK (K := K) rfl) (pe_lst (pa_cons (pe_op op_mod (pe_op op_fdivB (pv 2) pe_int) (pe_op op_add (pv 1) pe_int)) (pa_cons (pv 1) (pa_cons (pe_op op_mod (pe_op op_fdivB (pv 2) pe_int) (pe_op op_add (pv 1) pe_int)) pa_nil)))) (pe_op op_mod (pv 2) pe_int) (fun _ _ => rfl)))
    (pss_cons (ps_set (i := 4) sc_l_behind.nd rfl (Or.inl rfl) (pe_call (ok_l_cell_at T) (hr.mono (by decide)) rfl T.m_l_cell_at T.F_l_cell_at.kp T.b_l_cell_at .nil pass0 (pa_cons (pv 0) (pa_cons pe_int pa_nil))))
    (pss_cons (ps_set (i := 5) sc_l_behind.nd rfl (Or.inl rfl) (pe_call (ok_l_names T) (hr.mono (by decide)) rfl T.m_l_names T.F_l_names.kp T.b_l_names .nil pass0 (pa_cons (pv 4) (pa_cons (pv 3) pa_nil))))
    (pss_cons (ps_set (i := 6) sc_l_behind.nd rfl (Or.inl rfl) (pe_ix (ix_seqK (K := K) rfl) (pe_lst (pa_cons pe_int (pa_cons pe_int (pa_cons pe_int (pa_cons (pv 1) pa_nil))))) (pe_op op_mod (pv 4) pe_int) (fun _ _ => rfl)))
    (pss_cons (ps_set (i := 7) sc_l_behind.nd rfl (Or.inl rfl) (pe_op op_rep (pe_lst (pa_cons (pe_un un_neg pe_int) pa_nil)) (pv 3)))
    (pss_cons (ps_for PassesOwn.never rfl (pi_range2 rfl T.z_range (pa_cons pe_int (pa_cons (pv 3) pa_nil))) (pg_name (i := 8) sc_l_behind.nd rfl (Or.inl rfl))
      (pss_cons (ps_set (i := 9) sc_l_behind.nd rfl (Or.inl rfl) (pe_op op_mod (pe_call (ok_l_mixed T) (hr.mono (by decide)) rfl T.m_l_mixed T.F_l_mixed.kp T.b_l_mixed .nil pass0 (pa_cons (pv 4) (pa_cons (pe_op op_add pe_int (pv 8)) pa_nil))) (pe_callB (call_min2 rfl) rfl T.z_min bt_min (pa_cons (pv 8) (pa_cons (pv 6) pa_nil)))))
    (pss_one (ps_asg (pe_ix (ix_seqK (K := K) rfl) (pv 5) (pe_ix (ix_seqK (K := K) rfl) (pe_lst (pa_cons (pe_op op_sub (pe_op op_sub (pv 8) pe_int) (pv 9)) (pa_cons (pv 9) pa_nil))) (pe_op op_mod (pe_op op_fdivB (pv 4) pe_int) pe_int) (fun _ _ => rfl)) (fun _ _ => rfl)) (pg_sub (pv 7) (pe_ix (ix_seqK (K := K) rfl) (pv 5) (pv 8) (fun _ _ => rfl)) set_list)))))
    (pss_cons (ps_for PassesOwn.never rfl (pi_range2 rfl T.z_range (pa_cons pe_int (pa_cons (pe_callB (call_min2 rfl) rfl T.z_min bt_min (pa_cons pe_int (pa_cons (pe_callB (call_lenK (K := K) rfl) rfl T.z_len bt_len (pa_cons (pv 0) pa_nil)) pa_nil))) pa_nil))) (pg_name (i := 8) sc_l_behind.nd rfl (Or.inl rfl))
      (pss_cons (ps_set (i := 10) sc_l_behind.nd rfl (Or.inl rfl) (pe_call (ok_l_mixed T) (hr.mono (by decide)) rfl T.m_l_mixed T.F_l_mixed.kp T.b_l_mixed .nil pass0 (pa_cons (pe_ix (ix_seqK (K := K) rfl) (pv 0) (pv 8) (fun _ _ => rfl)) (pa_cons (pv 8) pa_nil))))
    (pss_one (ps_if (pt_cmpR op_gt (pv 3) pe_int (nomark _))
      (pss_cons (ps_set (i := 11) sc_l_behind.nd rfl (Or.inl rfl) (pe_op op_add pe_int (pe_op op_mod (pe_op op_mod (pe_op op_mulB (pv 10) pe_int) pe_int) (pe_op op_sub (pv 3) pe_int))))
    (pss_cons (ps_set (i := 9) sc_l_behind.nd rfl (Or.inl rfl) (pe_op op_mod (pe_op op_mod (pe_op op_mulB (pv 10) pe_int) pe_int) (pe_callB (call_min2 rfl) rfl T.z_min bt_min (pa_cons (pv 11) (pa_cons (pv 6) pa_nil)))))
    (pss_cons (ps_asg (pe_ix (ix_seqK (K := K) rfl) (pv 5) (pe_ix (ix_seqK (K := K) rfl) (pe_lst (pa_cons (pe_op op_sub (pe_op op_sub (pv 11) pe_int) (pv 9)) (pa_cons (pv 9) pa_nil))) (pe_op op_mod (pe_op op_fdivB (pv 4) pe_int) pe_int) (fun _ _ => rfl)) (fun _ _ => rfl)) (pg_sub (pv 7) (pe_ix (ix_seqK (K := K) rfl) (pv 5) (pv 11) (fun _ _ => rfl)) set_list))
    (pss_one (ps_if (pt_cmpR (op_eqD (K := K) hr.units) (pe_op op_mod (pv 10) (pe_ix (ix_seqK (K := K) rfl) (pe_lst (pa_cons pe_int (pa_cons pe_int (pa_cons pe_int pa_nil)))) (pe_op op_mod (pe_op op_fdivB (pv 4) pe_int) pe_int) (fun _ _ => rfl))) pe_int (nomark _))
      (pss_one (ps_asg (pe_un un_neg pe_int) (pg_sub (pv 7) (pe_ix (ix_seqK (K := K) rfl) (pv 5) (pv 11) (fun _ _ => rfl)) set_list)))
      pss_nil)))))
      pss_nil))))
    (pss_one (ps_ret (pv 7))))))))))),
    (ss_seq (ss_set (si_call (sa_any (sb_var 0) (sa_any (SemI.b si_int) sa_nil))))
    (ss_seq (ss_set (si_ix (SemF.l (sf_lst (n := 3) (sa_own (si_mod (SemI.b (si_fdiv (sb_var 2) (SemI.b si_int))) (SemI.b (si_add (sb_var 1) (SemI.b si_int)))) (sa_own (SemB.i (sb_var 1)) (sa_own (si_mod (SemI.b (si_fdiv (sb_var 2) (SemI.b si_int))) (SemI.b (si_add (sb_var 1) (SemI.b si_int)))) sa_nil))) (by decide))) (SemI.b (si_mod (sb_var 2) (SemI.b si_int)))))
    (ss_seq (ss_set (si_call (sa_any (sb_var 0) (sa_any (SemI.b si_int) sa_nil))))
    (ss_seq (ss_set (si_call (sa_any (sb_var 4) (sa_any (sb_var 3) sa_nil))))
    (ss_seq (ss_set (si_ix (SemF.l (sf_lst (n := 4) (sa_own si_int (sa_own si_int (sa_own si_int (sa_own (SemB.i (sb_var 1)) sa_nil)))) (by decide))) (SemI.b (si_mod (sb_var 4) (SemI.b si_int)))))
    (ss_seq (ss_setO (sf_rep (sf_lst (n := 1) (sa_own (si_neg (SemI.b si_int)) sa_nil) (by decide)) (sb_var 3)))
    (ss_seq (ss_for (m := true) (sw_range2 (SemI.b si_int) (sb_var 3)) (sg_name 8)
      (ss_seq (ss_set (si_mod (SemI.b (si_call (sa_any (sb_var 4) (sa_any (SemI.b (si_add (SemI.b si_int) (sb_var 8))) sa_nil)))) (SemI.b (si_min2 (sb_var 8) (sb_var 6)))))
    (ss_put (si_ix (si_var 5) (sb_ix (SemI.b (SemF.l (sf_lst (n := 2) (sa_own (si_sub (SemI.b (si_sub (sb_var 8) (SemI.b si_int))) (sb_var 9)) (sa_own (si_var 9) sa_nil)) (by decide)))) (SemI.b (si_mod (SemI.b (si_fdiv (sb_var 4) (SemI.b si_int))) (SemI.b si_int))))) (sb_ix (sb_var 5) (sb_var 8)))))
    (ss_seq (ss_for (m := true) (sw_range2 (SemI.b si_int) (SemI.b (si_min2 (SemI.b si_int) (SemI.b (si_len (sb_var 0)))))) (sg_name 8)
      (ss_seq (ss_set (si_call (sa_any (sb_ix (sb_var 0) (sb_var 8)) (sa_any (sb_var 8) sa_nil))))
    (ss_if (st_test (SemI.b (si_gt (sb_var 3) (SemI.b si_int))))
      (ss_seq (ss_set (si_add (SemI.b si_int) (SemI.b (si_mod (SemI.b (si_mod (SemI.b (si_mul (sb_var 10) (SemI.b si_int))) (SemI.b si_int))) (SemI.b (si_sub (sb_var 3) (SemI.b si_int)))))))
    (ss_seq (ss_set (si_mod (SemI.b (si_mod (SemI.b (si_mul (sb_var 10) (SemI.b si_int))) (SemI.b si_int))) (SemI.b (si_min2 (sb_var 11) (sb_var 6)))))
    (ss_seq (ss_put (si_ix (si_var 5) (sb_ix (SemI.b (SemF.l (sf_lst (n := 2) (sa_own (si_sub (SemI.b (si_sub (sb_var 11) (SemI.b si_int))) (sb_var 9)) (sa_own (si_var 9) sa_nil)) (by decide)))) (SemI.b (si_mod (SemI.b (si_fdiv (sb_var 4) (SemI.b si_int))) (SemI.b si_int))))) (sb_ix (sb_var 5) (sb_var 11)))
    (ss_if (st_test (SemI.b (si_eq (neg := false) (SemI.b (si_mod (sb_var 10) (sb_ix (SemI.b (SemF.l (sf_lst (n := 3) (sa_own si_int (sa_own si_int (sa_own si_int sa_nil))) (by decide)))) (SemI.b (si_mod (SemI.b (si_fdiv (sb_var 4) (SemI.b si_int))) (SemI.b si_int)))))) (SemI.b si_int))))
      (ss_put (si_neg (SemI.b si_int)) (sb_ix (sb_var 5) (sb_var 11)))
      ss_pass))))
      ss_pass)))
    (ss_frz 7 (ss_ret (si_var 7)))))))))))⟩
theorem ok_l_benches (T : Txt K mg ad) : FnOk P w K mg base CX0 2 ad.f_l_benches ad.d_l_benches ["_law_script"] (spD .v K [false] F_l_benches) := by
  rw [F_l_benches_def]
  exact Fun.okD (N := ["_law_script", "_law_number"]) T.F_l_benches sc_l_benches [false] rfl B_l_benches fun cdv A outer s H E hr => ⟨_,
    (pss_cons (ps_set (i := 1) sc_l_benches.nd rfl (Or.inl rfl) (pe_call (ok_l_mixed T) (hr.mono (by decide)) rfl T.m_l_mixed T.F_l_mixed.kp T.b_l_mixed .nil pass0 (pa_cons (pe_call (ok_l_cell_at T) (hr.mono (by decide)) rfl T.m_l_cell_at T.F_l_cell_at.kp T.b_l_cell_at .nil pass0 (pa_cons (pv 0) (pa_cons pe_int pa_nil))) (pa_cons pe_int pa_nil))))
    (pss_one (ps_ret (pe_ix (ix_seqK (K := K) rfl) (pe_lst (pa_cons (pe_op op_add pe_int (pe_op op_mod (pe_op op_fdivB (pv 1) pe_int) pe_int)) (pa_cons (pe_op op_add pe_int (pe_op op_mod (pe_op op_fdivB (pv 1) pe_int) pe_int)) (pa_cons pe_int (pa_cons pe_int pa_nil))))) (pe_op op_mod (pv 1) pe_int) (fun _ _ => rfl))))),
    (ss_seq (ss_set (si_call (sa_any (SemI.b (si_call (sa_any (sb_var 0) (sa_any (SemI.b si_int) sa_nil)))) (sa_any (SemI.b si_int) sa_nil))))
    (ss_ret (si_ix (SemF.l (sf_lst (n := 4) (sa_own (si_add (SemI.b si_int) (SemI.b (si_mod (SemI.b (si_fdiv (sb_var 1) (SemI.b si_int))) (SemI.b si_int)))) (sa_own (si_add (SemI.b si_int) (SemI.b (si_mod (SemI.b (si_fdiv (sb_var 1) (SemI.b si_int))) (SemI.b si_int)))) (sa_own si_int (sa_own si_int sa_nil)))) (by decide))) (SemI.b (si_mod (sb_var 1) (SemI.b si_int))))))⟩
theorem okX_l_asked (T : Txt K mg ad) : FnOk P w K mg base (CXE P w) 5 ad.f_l_asked ad.d_l_asked ["_law_k", "_law_behind_here", "_law_benches_here", "_law_height"] (spX K [false, false, false, false] ad.c_NoOrder X_l_asked) := by
  rw [X_l_asked_def]
  exact Fun.okX (N := ["_law_k", "_law_behind_here", "_law_benches_here", "_law_height"]) T.F_l_asked sc_l_asked [false, false, false, false] rfl BX_l_asked fun cdv A outer s H E hr => ⟨_,
    (pss_cons (ps_if (pt_cmpR (op_eqD (K := K) hr.units) (pv 0) pe_int (nomark _))
      (pss_one (ps_expr (pe_call (okX_levels T) (hr.mono (by decide)) rfl T.m_levels T.F_levels.kp T.b_levels .nil (XLink.passes (E := E) (fun _ _ h => h) ⟨rfl, rfl, rfl⟩) (pa_cons (pv 1) pa_nil))))
      pss_nil)
    (pss_cons (ps_if (pt_cmpR (op_eqD (K := K) hr.units) (pv 0) pe_int (nomark _))
      (pss_one (ps_expr (pe_call (okX_tree_turns T) (hr.mono (by decide)) rfl T.m_tree_turns T.F_tree_turns.kp T.b_tree_turns .nil (XLink.passes (E := E) (fun _ _ h => h) ⟨rfl, rfl, rfl⟩) (pa_cons (pv 1) (pa_cons (pv 2) pa_nil)))))
      pss_nil)
    (pss_cons (ps_if (pt_cmpR (op_eqD (K := K) hr.units) (pv 0) pe_int (nomark _))
      (pss_one (ps_expr (pe_call (okX_turns_shown T) (hr.mono (by decide)) rfl T.m_turns_shown T.F_turns_shown.kp T.b_turns_shown .nil (XLink.passes (E := E) (fun _ _ h => h) ⟨rfl, rfl, rfl⟩) (pa_cons (pv 1) (pa_cons (pv 2) (pa_cons (pv 3) pa_nil))))))
      pss_nil)
    (pss_one (ps_if (pt_cmpR (op_eqD (K := K) hr.units) (pv 0) pe_int (nomark _))
      (pss_one (ps_expr (pe_call (okX_why_tree T) (hr.mono (by decide)) rfl T.m_why_tree T.F_why_tree.kp T.b_why_tree .nil (XLink.passes (E := E) (fun _ _ h => h) ⟨rfl, rfl, rfl⟩) (pa_cons (pv 1) (pa_cons (pv 2) pa_nil)))))
      pss_nil))))),
    (ss_seq (ss_if (st_test (SemI.b (si_eq (neg := false) (sb_var 0) (SemI.b si_int))))
      (ss_xdrop (sa_any (sb_var 1) sa_nil))
      ss_pass)
    (ss_seq (ss_if (st_test (SemI.b (si_eq (neg := false) (sb_var 0) (SemI.b si_int))))
      (ss_xdrop (sa_any (sb_var 1) (sa_any (sb_var 2) sa_nil)))
      ss_pass)
    (ss_seq (ss_if (st_test (SemI.b (si_eq (neg := false) (sb_var 0) (SemI.b si_int))))
      (ss_xdrop (sa_any (sb_var 1) (sa_any (sb_var 2) (sa_any (sb_var 3) sa_nil))))
      ss_pass)
    (ss_if (st_test (SemI.b (si_eq (neg := false) (sb_var 0) (SemI.b si_int))))
      (ss_xdrop (sa_any (sb_var 1) (sa_any (sb_var 2) sa_nil)))
      ss_pass))))⟩
theorem ok_l_refused (T : Txt K mg ad) : FnOk P w K mg base CX0 6 ad.f_l_refused ad.d_l_refused ["_law_k", "_law_behind_here", "_law_benches_here", "_law_height"] (spD .v K [false, false, false, false] F_l_refused) := by
  rw [F_l_refused_def]
  exact Fun.okD (N := ["_law_k", "_law_behind_here", "_law_benches_here", "_law_height", "_law_caught", "e"]) T.F_l_refused sc_l_refused [false, false, false, false] rfl B_l_refused fun cdv A outer s H E hr => ⟨_,
    (pss_cons (ps_set (i := 4) sc_l_refused.nd rfl (Or.inl rfl) pe_non)
    (pss_cons (ps_try (iv := 4) (ie := 5) ⟨rfl, rfl, rfl⟩ (okX_l_asked T) (hr.mono (by decide)) rfl T.m_l_asked T.F_l_asked.kp T.b_l_asked (fun _ => (pa_cons (pv 0) (pa_cons (pv 1) (pa_cons (pv 2) (pa_cons (pv 3) pa_nil))))) sc_l_refused.nd rfl rfl rfl rfl rfl T.m_FloorError)
    (pss_cons (ps_if (PW.pt (pw_or (pt_truthK (K := K) rfl (pe_callB (call_isE (K := K) rfl) rfl T.z_isinstance bt_isinstance (pa_cons (pv 4) (pa_cons (pe_glob (v := .ref ad.c_NoRoom) rfl T.m_NoRoom rfl) pa_nil))) (fun _ => rfl)) (pw_or (pt_truthK (K := K) rfl (pe_callB (call_isE (K := K) rfl) rfl T.z_isinstance bt_isinstance (pa_cons (pv 4) (pa_cons (pe_glob (v := .ref ad.c_NoText) rfl T.m_NoText rfl) pa_nil))) (fun _ => rfl)) (pw_or1 (pt_truthK (K := K) rfl (pe_callB (call_isE (K := K) rfl) rfl T.z_isinstance bt_isinstance (pa_cons (pv 4) (pa_cons (pe_glob (v := .ref ad.c_NoKind) rfl T.m_NoKind rfl) pa_nil))) (fun _ => rfl)))))) (pss_one (ps_ret pe_bl)) pss_nil)
    (pss_cons (ps_if (PW.pt (pw_or (pt_truthK (K := K) rfl (pe_callB (call_isE (K := K) rfl) rfl T.z_isinstance bt_isinstance (pa_cons (pv 4) (pa_cons (pe_glob (v := .ref ad.c_NoFloor) rfl T.m_NoFloor rfl) pa_nil))) (fun _ => rfl)) (pw_or (pt_truthK (K := K) rfl (pe_callB (call_isE (K := K) rfl) rfl T.z_isinstance bt_isinstance (pa_cons (pv 4) (pa_cons (pe_glob (v := .ref ad.c_NoRow) rfl T.m_NoRow rfl) pa_nil))) (fun _ => rfl)) (pw_or1 (pt_truthK (K := K) rfl (pe_callB (call_isE (K := K) rfl) rfl T.z_isinstance bt_isinstance (pa_cons (pv 4) (pa_cons (pe_glob (v := .ref ad.c_NoName) rfl T.m_NoName rfl) pa_nil))) (fun _ => rfl)))))) (pss_one (ps_ret pe_bl)) pss_nil)
    (pss_one (ps_ret (pe_and (pe_callB (call_isE (K := K) rfl) rfl T.z_isinstance bt_isinstance (pa_cons (pv 4) (pa_cons (pe_glob (v := .ref ad.c_NoOrder) rfl T.m_NoOrder rfl) pa_nil))) (pe_one (pe_callB (call_isE (K := K) rfl) rfl T.z_isinstance bt_isinstance (pa_cons (pv 4) (pa_cons (pe_bltn (v := .ty "ValueError") rfl T.z_ValueError bt_ValueError rfl) pa_nil))))))))))),
    (ss_seq (ss_set si_non)
    (ss_refused (ie := 5) (sa_any (sb_var 0) (sa_any (sb_var 1) (sa_any (sb_var 2) (sa_any (sb_var 3) sa_nil)))) T.x_NoOrder_FloorError (by decide)
    (xs_if (xt_or (xt_tru (xe_is (c := .ref ad.c_NoRoom) (u := .ref ad.c_NoRoom) T.kx_NoOrder rfl T.i_NoOrder_NoRoom)) (xt_or (xt_tru (xe_is (c := .ref ad.c_NoText) (u := .ref ad.c_NoText) T.kx_NoOrder rfl T.i_NoOrder_NoText)) (xt_tru (xe_is (c := .ref ad.c_NoKind) (u := .ref ad.c_NoKind) T.kx_NoOrder rfl T.i_NoOrder_NoKind))))
    (xs_if (xt_or (xt_tru (xe_is (c := .ref ad.c_NoFloor) (u := .ref ad.c_NoFloor) T.kx_NoOrder rfl T.i_NoOrder_NoFloor)) (xt_or (xt_tru (xe_is (c := .ref ad.c_NoRow) (u := .ref ad.c_NoRow) T.kx_NoOrder rfl T.i_NoOrder_NoRow)) (xt_tru (xe_is (c := .ref ad.c_NoName) (u := .ref ad.c_NoName) T.kx_NoOrder rfl T.i_NoOrder_NoName))))
    (xs_ret (xe_and (xe_is (c := .ref ad.c_NoOrder) (u := .ref ad.c_NoOrder) T.kx_NoOrder rfl T.i_NoOrder_NoOrder) (xe_is (c := .ty "ValueError") (u := .type "ValueError") T.kx_NoOrder rfl T.i_NoOrder_ValueError)))))))⟩
theorem ok_l_bent (T : Txt K mg ad) : FnOk P w K mg base CX0 2 ad.f_l_bent ad.d_l_bent ["_law_behind_here", "_law_script"] (spD .v K [true, false] F_l_bent) := by
  rw [F_l_bent_def]
  exact Fun.okD (N := ["_law_behind_here", "_law_script", "_law_number", "_law_far", "_law_at", "_law_last", "_law_one"]) T.F_l_bent sc_l_bent [true, false] rfl B_l_bent fun cdv A outer s H E hr => ⟨_,
    (pss_cons (ps_set (i := 2) sc_l_bent.nd rfl (Or.inl rfl) (pe_call (ok_l_mixed T) (hr.mono (by decide)) rfl T.m_l_mixed T.F_l_mixed.kp T.b_l_mixed .nil pass0 (pa_cons (pe_call (ok_l_cell_at T) (hr.mono (by decide)) rfl T.m_l_cell_at T.F_l_cell_at.kp T.b_l_cell_at .nil pass0 (pa_cons (pv 1) (pa_cons pe_int pa_nil))) (pa_cons pe_int pa_nil))))
    (pss_cons (ps_set (i := 3) sc_l_bent.nd rfl (Or.inl rfl) (pe_op op_mod (pe_call (ok_l_cell_at T) (hr.mono (by decide)) rfl T.m_l_cell_at T.F_l_cell_at.kp T.b_l_cell_at .nil pass0 (pa_cons (pv 1) (pa_cons pe_int pa_nil))) (pe_op op_pow pe_int pe_int)))
    (pss_cons (ps_set (i := 4) sc_l_bent.nd rfl (Or.inl rfl) (pe_op op_mod (pe_op op_fdivB (pv 2) pe_int) (pe_callB (call_lenK (K := K) rfl) rfl T.z_len bt_len (pa_cons (pv 0) pa_nil))))
    (pss_cons (ps_if (pt_cmpR op_lt (pe_op op_mod (pv 2) pe_int) pe_int (nomark _))
      (pss_cons (ps_set (i := 5) sc_l_bent.nd rfl (Or.inl rfl) (pv 4))
    (pss_cons (ps_while PassesOwn.never (pt_cmpR (op_neD (K := K) hr.units) (pe_ix (ix_seqK (K := K) rfl) (pv 0) (pv 5) (fun _ _ => rfl)) (pe_un un_neg pe_int) (nomark _))
      (pss_one (ps_set (i := 5) sc_l_bent.nd rfl (Or.inl rfl) (pe_ix (ix_seqK (K := K) rfl) (pv 0) (pv 5) (fun _ _ => rfl)))))
    (pss_one (ps_ret (pe_op op_catR (pe_op op_catR (pe_slice (sl_listK (K := K) rfl) (pv 0) po_none (po_some (pv 5))) (pe_lst (pa_cons (pv 4) pa_nil))) (pe_slice (sl_listK (K := K) rfl) (pv 0) (po_some (pe_op op_add (pv 5) pe_int)) po_none))))))
      pss_nil)
    (pss_cons (ps_set (i := 6) sc_l_bent.nd rfl (Or.inl rfl) (pe_ix (ix_seqK (K := K) rfl) (pe_lst (pa_cons (pe_un un_neg pe_int) (pa_cons (pe_op op_sub (pe_un un_neg pe_int) (pv 3)) (pa_cons (pe_callB (call_lenK (K := K) rfl) rfl T.z_len bt_len (pa_cons (pv 0) pa_nil)) (pa_cons (pe_op op_add (pe_callB (call_lenK (K := K) rfl) rfl T.z_len bt_len (pa_cons (pv 0) pa_nil)) (pv 3)) pa_nil))))) (pe_op op_sub (pe_op op_mod (pv 2) pe_int) pe_int) (fun _ _ => rfl)))
    (pss_one (ps_ret (pe_op op_catR (pe_op op_catR (pe_slice (sl_listK (K := K) rfl) (pv 0) po_none (po_some (pv 4))) (pe_lst (pa_cons (pv 6) pa_nil))) (pe_slice (sl_listK (K := K) rfl) (pv 0) (po_some (pe_op op_add (pv 4) pe_int)) po_none))))))))),
    (ss_seq (ss_set (si_call (sa_any (SemI.b (si_call (sa_any (sb_var 1) (sa_any (SemI.b si_int) sa_nil)))) (sa_any (SemI.b si_int) sa_nil))))
    (ss_seq (ss_set (si_mod (SemI.b (si_call (sa_any (sb_var 1) (sa_any (SemI.b si_int) sa_nil)))) (SemI.b (si_pow (SemI.b si_int) (SemI.b si_int)))))
    (ss_seq (ss_set (si_mod (SemI.b (si_fdiv (sb_var 2) (SemI.b si_int))) (SemI.b (si_len (sb_var 0)))))
    (ss_seq (ss_if (st_test (SemI.b (si_lt (SemI.b (si_mod (sb_var 2) (SemI.b si_int))) (SemI.b si_int))))
      (ss_seq (ss_set (si_var 4))
    (ss_seq (ss_while (st_test (SemI.b (si_eq (neg := true) (sb_ix (sb_var 0) (sb_var 5)) (SemI.b (si_neg (SemI.b si_int))))))
      (ss_set (si_ix (si_var 0) (sb_var 5))))
    (ss_ret (SemF.l (sf_cat (SemF.l (sf_cat (SemF.l (sf_sl (si_var 0) so_none (so_some (sb_var 5)))) (SemF.l (sf_lst (n := 1) (sa_own (si_var 4) sa_nil) (by decide))))) (SemF.l (sf_sl (si_var 0) (so_some (SemI.b (si_add (sb_var 5) (SemI.b si_int)))) so_none)))))))
      ss_pass)
    (ss_seq (ss_set (si_ix (SemF.l (sf_lst (n := 4) (sa_own (si_neg (SemI.b si_int)) (sa_own (si_sub (SemI.b (si_neg (SemI.b si_int))) (sb_var 3)) (sa_own (si_len (sb_var 0)) (sa_own (si_add (SemI.b (si_len (sb_var 0))) (sb_var 3)) sa_nil)))) (by decide))) (SemI.b (si_sub (SemI.b (si_mod (sb_var 2) (SemI.b si_int))) (SemI.b si_int)))))
    (ss_ret (SemF.l (sf_cat (SemF.l (sf_cat (SemF.l (sf_sl (si_var 0) so_none (so_some (sb_var 4)))) (SemF.l (sf_lst (n := 1) (sa_own (si_var 6) sa_nil) (by decide))))) (SemF.l (sf_sl (si_var 0) (so_some (SemI.b (si_add (sb_var 4) (SemI.b si_int)))) so_none))))))))))⟩
theorem ok_law (T : Txt K mg ad) : FnOk P w K mg base CX0 7 ad.f_law ad.d_law ["_law_script"] (spD .v K [false] F_law) := by
  rw [F_law_def]
  exact Fun.okD (N := ["_law_script", "_law_behind_here", "_law_bent_here", "_law_benches_here", "_law_height", "_law_handed", "_law_k"]) T.F_law sc_law [false] rfl B_law fun cdv A outer s H E hr => ⟨_,
    (pss_cons (ps_set (i := 1) sc_law.nd rfl (Or.inl rfl) (pe_call (ok_l_behind T) (hr.mono (by decide)) rfl T.m_l_behind T.F_l_behind.kp T.b_l_behind .nil pass0 (pa_cons (pv 0) (pa_cons pe_int pa_nil))))
    (pss_cons (ps_if (pt_cmpR (op_eqD (K := K) hr.units) (pv 1) (pe_lst pa_nil) (nomark _))
      (pss_one (ps_set (i := 1) sc_law.nd rfl (Or.inl rfl) (pe_lst (pa_cons (pe_un un_neg pe_int) pa_nil))))
      pss_nil)
    (pss_cons (ps_set (i := 2) sc_law.nd rfl (Or.inl rfl) (pe_call (ok_l_bent T) (hr.mono (by decide)) rfl T.m_l_bent T.F_l_bent.kp T.b_l_bent .nil pass0 (pa_cons (pv 1) (pa_cons (pv 0) pa_nil))))
    (pss_cons (ps_set (i := 3) sc_law.nd rfl (Or.inl rfl) (pe_call (ok_l_benches T) (hr.mono (by decide)) rfl T.m_l_benches T.F_l_benches.kp T.b_l_benches .nil pass0 (pa_cons (pv 0) pa_nil)))
    (pss_cons (ps_set (i := 4) sc_law.nd rfl (Or.inl rfl) (pe_op op_mod (pe_call (ok_l_mixed T) (hr.mono (by decide)) rfl T.m_l_mixed T.F_l_mixed.kp T.b_l_mixed .nil pass0 (pa_cons (pe_call (ok_l_cell_at T) (hr.mono (by decide)) rfl T.m_l_cell_at T.F_l_cell_at.kp T.b_l_cell_at .nil pass0 (pa_cons (pv 0) (pa_cons pe_int pa_nil))) (pa_cons pe_int pa_nil))) pe_int))
    (pss_cons (ps_set (i := 5) sc_law.nd rfl (Or.inl rfl) (pe_callTy (call_list_ofK (K := K) rfl) rfl T.z_list bt_list (pa_cons (pv 2) pa_nil)))
    (pss_cons (ps_for PassesOwn.never rfl (pi_range1 rfl T.z_range (pa_cons pe_int pa_nil)) (pg_name (i := 6) sc_law.nd rfl (Or.inl rfl))
      (pss_one (ps_if (PW.pt (pw_or (pt_not (pt_truthK (K := K) rfl (pe_call (ok_l_refused T) (hr.mono (by decide)) rfl T.m_l_refused T.F_l_refused.kp T.b_l_refused .nil pass0 (pa_cons (pv 6) (pa_cons (pv 5) (pa_cons (pv 3) (pa_cons (pv 4) pa_nil))))) (fun _ => rfl))) (pw_or1 (pt_cmpR (op_neD (K := K) hr.units) (pv 5) (pv 2) (nomark _)))))
      (pss_one (ps_ret pe_bl))
      pss_nil)))
    (pss_one (ps_ret pe_bl))))))))),
    (ss_seq (ss_set (si_call (sa_any (sb_var 0) (sa_any (SemI.b si_int) sa_nil))))
    (ss_seq (ss_if (st_test (SemI.b (si_eq (neg := false) (sb_var 1) (SemI.b (SemF.l (sf_lst (n := 0) sa_nil (by decide)))))))
      (ss_set (SemF.l (sf_lst (n := 1) (sa_own (si_neg (SemI.b si_int)) sa_nil) (by decide))))
      ss_pass)
    (ss_seq (ss_set (si_call (sa_own (si_var 1) (sa_any (sb_var 0) sa_nil))))
    (ss_seq (ss_set (si_call (sa_any (sb_var 0) sa_nil)))
    (ss_seq (ss_set (si_mod (SemI.b (si_call (sa_any (SemI.b (si_call (sa_any (sb_var 0) (sa_any (SemI.b si_int) sa_nil)))) (sa_any (SemI.b si_int) sa_nil)))) (SemI.b si_int)))
    (ss_seq (ss_set (SemF.l (sf_list (si_var 2))))
    (ss_seq (ss_for (m := true) (sw_range1 (SemI.b si_int)) (sg_name 6)
      (ss_if (st_or (st_not (st_tru (K := K) (SemI.b (si_call (sa_any (sb_var 6) (sa_any (sb_var 5) (sa_any (sb_var 3) (sa_any (sb_var 4) sa_nil)))))))) (st_test (SemI.b (si_eq (neg := true) (sb_var 5) (sb_var 2)))))
      (ss_ret si_bl)
      ss_pass))
    (ss_ret si_bl))))))))⟩
end
local macro_rules | `(tactic| walk_at "sd") => `(tactic| first | assumption | omega | decide | (simp only [List.length_map, List.length_cons, List.length_nil]; omega) | ((with_reducible apply And.intro) <;> walk_at "sd"))
local macro_rules | `(tactic| walk_at "fn") => `(tactic| assumption)
local macro_rules | `(tactic| walk_at "ix") => `(tactic| first | exact ixS (by omega) (by omega) | exact ixI (by omega) (by omega) | exact ix2I _ _ _ | exact ix3I _ _ _ _ | exact ix4I _ _ _ _ _ | rfl)
local macro_rules | `(tactic| walk_at "ev") => `(tactic| first
  | ((with_reducible apply ev_add); (· walk_at "ev"); (· walk_at "ev"))
  | ((with_reducible apply ev_sub); (· walk_at "ev"); (· walk_at "ev"))
  | ((with_reducible apply ev_mul); (· walk_at "ev"); (· walk_at "ev"); (· first | assumption | (apply imul; omega)))
  | ((with_reducible apply ev_fdiv); (· walk_at "ev"); (· walk_at "ev"); (· first | exact fdok (by omega) (by omega) | walk_at "sd"))
  | ((with_reducible apply ev_mod); (· walk_at "ev"); (· walk_at "ev"); (· walk_at "sd"))
  | ((with_reducible apply ev_lt); (· walk_at "ev"); (· walk_at "ev"))
  | ((with_reducible apply ev_le); (· walk_at "ev"); (· walk_at "ev"))
  | ((with_reducible apply ev_gt); (· walk_at "ev"); (· walk_at "ev"))
  | ((with_reducible apply ev_ge); (· walk_at "ev"); (· walk_at "ev"))
  | ((with_reducible apply ev_neg); (· walk_at "ev"))
  | ((with_reducible apply ev_chain); (· walk_at "ev"); (· walk_at "ev"); (· walk_at "ev"))
  | ((with_reducible apply ev_max2); (· walk_at "ev"); (· walk_at "ev"))
  | ((with_reducible apply ev_min2); (· walk_at "ev"); (· walk_at "ev"))
  | ((with_reducible apply ev_t); (· walk_at "ev"))
  | ((with_reducible apply ev_tru); (· walk_at "ev"); (· rfl))
  | ((with_reducible apply ev_not); (· walk_at "ev"))
  | ((with_reducible apply ev_and); (· walk_at "ev"); (· intro _; walk_at "ev"))
  | ((with_reducible apply ev_or); (· walk_at "ev"); (· intro _; walk_at "ev"))
  | ((with_reducible apply ev_andV); (· walk_at "ev"); (· intro _; walk_at "ev"))
  | ((with_reducible apply ev_orV); (· walk_at "ev"); (· intro _; walk_at "ev"))
  | ((with_reducible apply ev_notV); (· walk_at "ev"))
  | ((with_reducible apply ev_scal); (· walk_at "ev"); (· rfl))
  | ((with_reducible apply ev_lst); (· walk_at "ev"))
  | ((with_reducible apply ev_tup); (· walk_at "ev"))
  | ((with_reducible apply ev_cons); (· walk_at "ev"); (· walk_at "ev"))
  | ((with_reducible apply ev_ix); (· walk_at "ev"); (· walk_at "ev"); (· walk_at "ix"))
  | ((with_reducible apply ev_f1); (· walk_at "ev"); (· rfl))
  | ((with_reducible apply ev_call); (· walk_at "ev"); (· walk_at "fn"))
  | ((with_reducible apply ev_eqF); (· walk_at "ev"); (· walk_at "ev"))
  | ((with_reducible apply ev_neF); (· walk_at "ev"); (· walk_at "ev"))
  | ((with_reducible apply ev_rg1); (· walk_at "ev"); (· walk_at "sd"))
  | ((with_reducible apply ev_rg2); (· walk_at "ev"); (· walk_at "ev"); (· walk_at "sd"))
  | ((with_reducible apply ev_asL); (· walk_at "ev"); (· rfl))
  | ((with_reducible apply ev_lof); (· walk_at "ev"); (· rfl))
  | ((with_reducible apply ev_sl); (· walk_at "ev"); (· walk_at "ev"); (· walk_at "ev"))
  | ((with_reducible apply ev_oSome); (· walk_at "ev"))
  | ((with_reducible apply ev_rep); (· walk_at "ev"); (· walk_at "ev"); (· simp only [List.length_cons, List.length_nil]; walk_at "sd"))
  | ((with_reducible show dVar _ _ = _); rfl)
  | ((with_reducible show dVarI _ _ = _); rfl)
  | ((with_reducible show dVarO _ _ = _); rfl)
  | ((with_reducible show dC _ _ = _); rfl)
  | ((with_reducible show dNil _ = _); rfl)
  | ((with_reducible show oNone _ = _); rfl)
  | ((with_reducible show dTrue _ = _); rfl))
local macro_rules | `(tactic| walk_at "st") => `(tactic| dsimp only [List.set_cons_succ, List.set_cons_zero])
local macro_rules | `(tactic| walk_at "go") => `(tactic| ((try dsimp only); walk_at "go1"))
local macro_rules | `(tactic| walk_at "go1") => `(tactic| first
  | ((with_reducible apply wp_seq); walk_at "go")
  | ((with_reducible apply wp_frz); dsimp only [frz, List.getD_cons_succ, List.getD_cons_zero, List.set_cons_succ, List.set_cons_zero]; walk_at "go")
  | ((with_reducible apply wp_set); (· walk_at "ev"); walk_at "st"; walk_at "go")
  | ((with_reducible apply wp_setO); (· walk_at "ev"); (· simp only [List.length_cons, List.length_nil]; omega); walk_at "st"; walk_at "go")
  | ((with_reducible apply wp_aug); (· rfl); (· walk_at "ev"); walk_at "st"; walk_at "go")
  | ((with_reducible apply wp_pass); (try dsimp only); walk_at "go")
  | skip)
theorem cell_at (ns : List Int) (k : Int) (h : 0 ≤ k) : F_l_cell_at [.scr ns, .int k] = some (.int (ns.getD k.toNat 0)) := by
  refine run_eqF F_l_cell_at_def ?_
  rw [st_l_cell_at]
  unfold B_l_cell_at
  walk_at "go"
  refine wp_ifp (by walk_at "ev") (fun c => ?_) fun c => ?_
  · refine wp_ret (by walk_at "ev") rfl
  · walk_at "go"
    refine wp_ret (by walk_at "ev") ?_
    rw [List.getD_eq_getElem?_getD, List.getElem?_eq_none (by omega)]
    rfl
def mixedZ (c k : Int) : Int := (c * 48271 + k * k * 69621 + 3) % 2147483647 * ((c * 48271 + k * k * 69621 + 3) % 2147483647) % 2147483629
theorem mixed (c k : Int) (h0 : 0 ≤ k) (h : k < 2 ^ 31) : F_l_mixed [.int c, .int k] = some (.int (mixedZ c k)) := by
  refine run_eqF F_l_mixed_def ?_
  rw [st_l_mixed]
  unfold B_l_mixed
  have hk : k * k < 2 ^ 64 := by
    have := Int.mul_le_mul (a := k) (b := k) (c := 2 ^ 31) (d := 2 ^ 31) (by omega) (by omega) h0 (by omega)
    omega
  have hk0 : 0 ≤ k * k := Int.mul_nonneg h0 h0
  walk_at "go"
  refine wp_ret (by walk_at "ev") ?_
  rfl
theorem mixedZ_nn (c k : Int) : 0 ≤ mixedZ c k := Int.emod_nonneg _ (by decide)

local macro_rules | `(tactic| walk_at "fn") => `(tactic| first | exact cell_at _ _ (by omega) | exact mixed _ _ (by omega) (by omega))
theorem upL_at {lo : Int} {n j : Nat} {d : D} (h : (upL lo n)[j]? = some d) : j < n ∧ d = .int (lo + j) := upL_get h
theorem getD_setI {xs : List Int} {j k : Nat} {v : Int} (h : j < xs.length) : (xs.set j v).getD k 0 = if k = j then v else xs.getD k 0 := by
  rw [List.getD_eq_getElem?_getD, List.getElem?_set, List.getD_eq_getElem?_getD]
  by_cases c : j = k
  · subst c
    rw [if_pos rfl, if_pos h, if_pos rfl]
    rfl
  · rw [if_neg c, if_neg (Ne.symm c)]
theorem set_mapI (xs : List Int) (j : Nat) (v : Int) : (xs.map D.int).set j (.int v) = (xs.set j v).map D.int := by rw [List.map_set]
theorem mem_getD {p : List Int} {k : Nat} (hk : k < p.length) : p.getD k 0 ∈ p := by rw [List.getD_eq_getElem?_getD, List.getElem?_eq_getElem hk]; exact List.getElem_mem hk
/-- the points of 0 .. m - 1, in some order -/
structure Names (p : List Int) (m : Nat) : Prop where
  len : p.length = m
  all : ∀ x ∈ p, 0 ≤ x ∧ x < m
  nd : p.Nodup
theorem map_ins (p : List Int) (k : Nat) (x : Int) : (p.map D.int).take k ++ D.int x :: (p.map D.int).drop k = (p.take k ++ x :: p.drop k).map D.int := by
  rw [List.map_append, List.map_cons, List.map_take, List.map_drop]
theorem Names.ins {p : List Int} {m k : Nat} (h : Names p m) : Names (p.take k ++ (m : Int) :: p.drop k) (m + 1) := by
  have hl := h.len
  have perm : (p.take k ++ (m : Int) :: p.drop k).Perm ((m : Int) :: p) := by
    refine List.perm_middle.trans ?_
    rw [List.take_append_drop]
  refine ⟨by rw [perm.length_eq, List.length_cons, hl], fun x hx => ?_, ?_⟩
  · rcases List.mem_cons.mp (perm.mem_iff.mp hx) with rfl | hx
    · omega
    · have := h.all x hx
      omega
  · refine perm.nodup_iff.mpr (List.nodup_cons.mpr ⟨fun hx => ?_, h.nd⟩)
    have := h.all _ hx
    omega
theorem names (c M : Int) (h0 : 0 ≤ M) (hm : M ≤ 1000) : ∃ p : List Int, F_l_names [.int c, .int M] = some (.lst (p.map D.int)) ∧ Names p M.toNat := by
  have hline : sizeLine = 16777216 := sizeLine_eq
  obtain ⟨d, e, p, rfl, hp⟩ := run_ofF F_l_names_def (ds := [.int c, .int M]) (P := fun d => ∃ p : List Int, d = .lst (p.map D.int) ∧ Names p M.toNat) (by
    rw [st_l_names]
    unfold B_l_names
    walk_at "go"
    refine wp_for (by walk_at "ev") (fun j ρ => ∃ p v3, Names p j ∧ ρ = [.bo (.int c), .bo (.int M), .ol (p.map D.int), v3]) ⟨[], .un, ⟨rfl, by simp, by simp⟩, rfl⟩ ?_ ?_
    · rintro j d ρ hd ⟨p, v3, hp, rfl⟩
      obtain ⟨hj, rfl⟩ := upL_at hd
      refine ⟨_, rfl, ?_⟩
      dsimp only [gN, slm, List.set_cons_succ, List.set_cons_zero]
      have hl := hp.len
      have e1 := Int.emod_nonneg (mixedZ c (0 + (j : Int))) (show (0 + (j : Int) + 1) ≠ 0 by omega)
      have e2 := Int.emod_lt_of_pos (mixedZ c (0 + (j : Int))) (show 0 < (0 + (j : Int) + 1) by omega)
      refine wp_ins rfl (by walk_at "ev") (by walk_at "ev") ?_ ?_
      · rw [List.length_map]; omega
      · have ej : (0 : Int) + (j : Int) = (j : Int) := by omega
        rw [map_ins, ej]
        exact ⟨_, _, hp.ins, rfl⟩
    · rintro ρ ⟨p, v3, hp, rfl⟩
      rw [upL_len] at hp
      walk_at "go"
      exact wp_ret (by walk_at "ev") ⟨p, rfl, hp⟩)
  exact ⟨p, e, hp⟩
/-- for each work none, or one that stands ahead of it in p -/
def Par (p bs : List Int) : Prop := bs.length = p.length ∧ ∀ w : Nat, w < bs.length → bs.getD w 0 = -1 ∨ ∃ j k : Nat, j < k ∧ k < p.length ∧ p.getD k 0 = w ∧ p.getD j 0 = bs.getD w 0
theorem Par.put {p bs : List Int} {j k : Nat} (h : Par p bs) (hn : Names p p.length) (hjk : j < k) (hk : k < p.length) : Par p (bs.set (p.getD k 0).toNat (p.getD j 0)) := by
  have hm := hn.all (p.getD k 0) (by rw [List.getD_eq_getElem?_getD, List.getElem?_eq_getElem hk]; exact List.getElem_mem hk)
  refine ⟨by rw [List.length_set]; exact h.1, fun w hw => ?_⟩
  rw [List.length_set] at hw
  have h1 := h.1
  rw [getD_setI (by omega)]
  split
  · rename_i e
    exact .inr ⟨j, k, hjk, hk, by omega, rfl⟩
  · exact h.2 w hw
theorem Par.cut {p bs : List Int} {i : Nat} (h : Par p bs) (hi : i < bs.length) : Par p (bs.set i (-1)) := by
  refine ⟨by rw [List.length_set]; exact h.1, fun w hw => ?_⟩
  rw [List.length_set] at hw
  rw [getD_setI hi]
  split
  · exact .inl rfl
  · exact h.2 w hw
theorem behind (ns : List Int) (hl : ns.length ≤ 63) : ∃ p bs : List Int, F_l_behind [.scr ns, .int 40] = some (.lst (bs.map D.int)) ∧ Names p p.length ∧ p.length ≤ 40 ∧ Par p bs := by
  have hline : sizeLine = 16777216 := sizeLine_eq
  obtain ⟨d, e, p, bs, rfl, hp, hm, hb⟩ := run_ofF F_l_behind_def (ds := [.scr ns, .int 40]) (P := fun d => ∃ p bs : List Int, d = .lst (bs.map D.int) ∧ Names p p.length ∧ p.length ≤ 40 ∧ Par p bs) (by
    rw [st_l_behind]
    unfold B_l_behind
    walk_at "go"
    generalize hM : pk3 (ns.getD (0 : Int).toNat 0 % 3) _ _ _ = M
    have hm : 0 ≤ M ∧ M ≤ 40 := by
      rw [← hM]; unfold pk3; split <;> (try split) <;> omega
    clear hM
    obtain ⟨p, ep, hp⟩ := names (ns.getD (1 : Int).toNat 0) M hm.1 (by omega)
    have hpl := hp.len
    generalize ns.getD (1 : Int).toNat 0 = c at ep ⊢
    walk_at "go"
    generalize hs : pk4 (c % 4) 1 2 5 40 = sp
    have hsp : 1 ≤ sp ∧ sp ≤ 40 := by rw [← hs]; unfold pk4; split <;> (try split) <;> (try split) <;> omega
    clear hs
    have hp' : Names p p.length := by rw [hpl]; exact hp
    have rep : (List.replicate M.toNat [D.int (-1)]).flatten = (List.replicate M.toNat (-1 : Int)).map D.int := by
      rw [List.map_replicate]; induction M.toNat with
      | zero => rfl
      | succ n ih => rw [List.replicate_succ, List.flatten_cons, ih, List.replicate_succ]; rfl
    rw [rep]
    refine wp_for (by walk_at "ev") (fun j ρ => ∃ bs v8 v9, Par p bs ∧ ρ = [.bo (.scr ns), .bo (.int 40), .pu (.int (ns.getD (0 : Int).toNat 0)), .pu (.int M), .pu (.int c), .pu (.lst (p.map D.int)), .pu (.int sp), .ol (bs.map D.int), v8, v9, .un, .un])
      ⟨_, .un, .un, ⟨by rw [List.length_replicate, hpl], fun w hw => .inl (by rw [List.length_replicate] at hw; rw [List.getD_eq_getElem?_getD, List.getElem?_replicate, if_pos hw]; rfl)⟩, rfl⟩ ?_ ?_
    · rintro j d ρ hd ⟨bs, v8, v9, hb, rfl⟩
      obtain ⟨hj, rfl⟩ := upL_at hd
      refine ⟨_, rfl, ?_⟩
      dsimp only [gN, slm, List.set_cons_succ, List.set_cons_zero]
      walk_at "go"
      have b0 := Int.emod_nonneg (mixedZ c (60 + (1 + (j : Int)))) (show min (1 + (j : Int)) sp ≠ 0 by omega)
      have b1 := Int.emod_lt_of_pos (mixedZ c (60 + (1 + (j : Int)))) (show 0 < min (1 + (j : Int)) sp by omega)
      generalize mixedZ c (60 + (1 + (j : Int))) % min (1 + (j : Int)) sp = back at b0 b1
      have hq : 0 ≤ pk2 (c / 4 % 2) (1 + (j : Int) - 1 - back) back ∧ pk2 (c / 4 % 2) (1 + (j : Int) - 1 - back) back < 1 + (j : Int) := by unfold pk2; split <;> omega
      have hk := hp'.all _ (mem_getD (p := p) (k := (1 + (j : Int)).toNat) (by omega))
      have hbl := hb.1
      refine wp_put rfl (by walk_at "ev") (by walk_at "ev") (ixN_in hk.1 (by rw [List.length_map]; omega)) ?_
      dsimp only [List.set_cons_succ, List.set_cons_zero]
      rw [set_mapI]
      exact ⟨_, _, _, hb.put hp' (by omega) (by omega), rfl⟩
    · rintro ρ ⟨bs, v8, v9, hb, rfl⟩
      walk_at "go"
      refine wp_for (by walk_at "ev") (fun j ρ => ∃ bs v8 v9 v10 v11, Par p bs ∧ ρ = [.bo (.scr ns), .bo (.int 40), .pu (.int (ns.getD (0 : Int).toNat 0)), .pu (.int M), .pu (.int c), .pu (.lst (p.map D.int)), .pu (.int sp), .ol (bs.map D.int), v8, v9, v10, v11])
        ⟨bs, v8, v9, .un, .un, hb, rfl⟩ ?_ ?_
      · rintro j d ρ hd ⟨bs, v8, v9, v10, v11, hb, rfl⟩
        obtain ⟨hj, rfl⟩ := upL_at hd
        refine ⟨_, rfl, ?_⟩
        dsimp only [gN, slm, List.set_cons_succ, List.set_cons_zero]
        walk_at "go"
        have hN0 := mixedZ_nn (ns.getD (3 + (j : Int)).toNat 0) (3 + (j : Int))
        have hN1 : mixedZ (ns.getD (3 + (j : Int)).toNat 0) (3 + (j : Int)) < 2147483629 := Int.emod_lt_of_pos _ (by decide)
        generalize mixedZ (ns.getD (3 + (j : Int)).toNat 0) (3 + (j : Int)) = N at hN0 hN1
        refine wp_ifp (by walk_at "ev") (fun c1 => ?_) (fun _ => wp_pass ⟨_, _, _, _, _, hb, rfl⟩)
        walk_at "go"
        have a0 := Int.emod_nonneg (N * 16807 % 2147483587) (show M - 1 ≠ 0 by omega)
        have a1 := Int.emod_lt_of_pos (N * 16807 % 2147483587) (show 0 < M - 1 by omega)
        generalize N * 16807 % 2147483587 % (M - 1) = at' at a0 a1
        walk_at "go"
        have b0 := Int.emod_nonneg (N * 69621 % 1000003) (show min (1 + at') sp ≠ 0 by omega)
        have b1 := Int.emod_lt_of_pos (N * 69621 % 1000003) (show 0 < min (1 + at') sp by omega)
        generalize N * 69621 % 1000003 % min (1 + at') sp = back at b0 b1
        have hq : 0 ≤ pk2 (c / 4 % 2) (1 + at' - 1 - back) back ∧ pk2 (c / 4 % 2) (1 + at' - 1 - back) back < 1 + at' := by unfold pk2; split <;> omega
        have hk := hp'.all _ (mem_getD (p := p) (k := (1 + at').toNat) (by omega))
        have hbl := hb.1
        refine wp_put rfl (by walk_at "ev") (by walk_at "ev") (ixN_in hk.1 (by rw [List.length_map]; omega)) ?_
        dsimp only [List.set_cons_succ, List.set_cons_zero]
        rw [set_mapI]
        have hb2 := hb.put hp' (j := (pk2 (c / 4 % 2) (1 + at' - 1 - back) back).toNat) (k := (1 + at').toNat) (by omega) (by omega)
        have hb3 := hb2.1
        have h6 : 0 < pk3 (c / 8 % 3) 40 40 6 := by unfold pk3; split <;> (try split) <;> decide
        generalize bs.set (p.getD (1 + at').toNat 0).toNat (p.getD (pk2 (c / 4 % 2) (1 + at' - 1 - back) back).toNat 0) = bs2 at hb2 hb3 ⊢
        refine wp_ifp (by walk_at "ev") (fun c1 => ?_) (fun _ => wp_pass ⟨_, _, _, _, _, hb2, rfl⟩)
        refine wp_put rfl (by walk_at "ev") (by walk_at "ev") (ixN_in hk.1 (by rw [List.length_map]; omega)) ?_
        dsimp only [List.set_cons_succ, List.set_cons_zero]
        rw [set_mapI]
        exact ⟨_, _, _, _, _, hb2.cut (by omega), rfl⟩
      · rintro ρ ⟨bs, v8, v9, v10, v11, hb, rfl⟩
        walk_at "go"
        exact wp_ret (by walk_at "ev") ⟨p, bs, rfl, hp', by omega, hb⟩)
  exact ⟨p, bs, e, hp, hm, hb⟩

/-- the level by steps: n the most of them -/
def lev (bs : List Int) : Nat → Int → Int
  | 0, _ => 1
  | n + 1, w => if bs.getD w.toNat 0 = -1 then 1 else lev bs n (bs.getD w.toNat 0) + 1
/-- the place of a work in p -/
theorem place {p : List Int} (hp : Names p p.length) {w : Int} (h0 : 0 ≤ w) (h1 : w < p.length) : ∃ k : Nat, k < p.length ∧ p.getD k 0 = w := by
  have hperm : w ∈ p := by
    -- p has all of 0 .. m - 1
    have key : ∀ (m : Nat) (q : List Int), q.length = m → q.Nodup → (∀ x ∈ q, 0 ≤ x ∧ x < (m : Int)) → ∀ w : Int, 0 ≤ w → w < m → w ∈ q := by
      intro m
      induction m with
      | zero => intro q _ _ _ w a b; omega
      | succ m ih =>
        intro q hl hn ha w a b
        by_cases hm : (m : Int) ∈ q
        · by_cases hw : w = m
          · rw [hw]; exact hm
          · have := ih (q.erase (m : Int)) (by rw [List.length_erase_of_mem hm]; omega) (hn.erase _) (fun x hx => by
              have h1 := (hn.mem_erase_iff.mp hx)
              have h2 := ha x h1.2
              have h3 := h1.1
              omega) w a (by omega)
            exact List.mem_of_mem_erase this
        · -- pigeonhole: m + 1 unlike numbers below m
          exfalso
          have big : ∀ (m : Nat) (q : List Int), q.Nodup → (∀ x ∈ q, 0 ≤ x ∧ x < (m : Int)) → q.length ≤ m := by
            intro m
            induction m with
            | zero =>
              intro q hn ha
              cases q with
              | nil => exact Nat.le_refl _
              | cons x r => have := ha x List.mem_cons_self; omega
            | succ m ih2 =>
              intro q hn ha
              by_cases hm : (m : Int) ∈ q
              · have := ih2 (q.erase (m : Int)) (hn.erase _) (fun x hx => by
                  have h1 := (hn.mem_erase_iff.mp hx)
                  have h2 := ha x h1.2
                  have h3 := h1.1
                  omega)
                rw [List.length_erase_of_mem hm] at this
                omega
              · have := ih2 q hn (fun x hx => by
                  have h2 := ha x hx
                  have h3 : x ≠ m := fun z => hm (z ▸ hx)
                  omega)
                omega
          have := big m q hn (fun x hx => by
            have h2 := ha x hx
            have h3 : x ≠ m := fun z => hm (z ▸ hx)
            omega)
          omega
    exact key p.length p rfl hp.nd hp.all w h0 h1
  obtain ⟨k, hk, e⟩ := List.getElem_of_mem hperm
  exact ⟨k, hk, by rw [List.getD_eq_getElem?_getD, List.getElem?_eq_getElem hk]; exact e⟩
theorem nd_inj {p : List Int} (hn : p.Nodup) {j k : Nat} (hj : j < p.length) (hk : k < p.length) (e : p.getD j 0 = p.getD k 0) : j = k := by
  rw [List.getD_eq_getElem?_getD, List.getD_eq_getElem?_getD, List.getElem?_eq_getElem hj, List.getElem?_eq_getElem hk] at e
  have pw := List.pairwise_iff_getElem.mp hn
  rcases Nat.lt_trichotomy j k with h | h | h
  · exact absurd e (pw j k hj hk h)
  · exact h
  · exact absurd e.symm (pw k j hk hj h)
/-- from the place k on there are at most k steps -/
theorem lev_step {p bs : List Int} (hp : Names p p.length) (hb : Par p bs) {k : Nat} (hk : k < p.length) : bs.getD (p.getD k 0).toNat 0 = -1 ∨ ∃ j, j < k ∧ bs.getD (p.getD k 0).toNat 0 = p.getD j 0 := by
  have ha := hp.all _ (mem_getD hk)
  have h1 := hb.1
  rcases hb.2 (p.getD k 0).toNat (by omega) with e | ⟨j, k', hjk, hk', e1, e2⟩
  · exact .inl e
  · refine .inr ⟨j, ?_, e2.symm⟩
    have : k' = k := nd_inj hp.nd hk' hk (by omega)
    omega
theorem lev_more {p bs : List Int} (hp : Names p p.length) (hb : Par p bs) : ∀ (k : Nat), k < p.length → ∀ n, k ≤ n → lev bs (n + 1) (p.getD k 0) = lev bs (k + 1) (p.getD k 0) ∧ 1 ≤ lev bs (k + 1) (p.getD k 0) ∧ lev bs (k + 1) (p.getD k 0) ≤ k + 1 := by
  intro k
  induction k using Nat.strongRecOn with
  | _ k ih =>
    intro hk n hn
    have un : ∀ n, lev bs (n + 1) (p.getD k 0) = if bs.getD (p.getD k 0).toNat 0 = -1 then 1 else lev bs n (bs.getD (p.getD k 0).toNat 0) + 1 := fun _ => rfl
    rcases lev_step hp hb hk with e | ⟨j, hj, e⟩
    · rw [un, un, if_pos e, if_pos e]
      omega
    · have ha := hp.all _ (mem_getD (p := p) (k := j) (by omega))
      rw [un, un, if_neg (by omega), if_neg (by omega), e]
      obtain ⟨n', rfl⟩ : ∃ n', n = n' + 1 := ⟨n - 1, by omega⟩
      obtain ⟨k', rfl⟩ : ∃ k', k = k' + 1 := ⟨k - 1, by omega⟩
      obtain ⟨f1, f2, f3⟩ := ih j hj (by omega) n' (by omega)
      obtain ⟨g1, g2, g3⟩ := ih j hj (by omega) k' (by omega)
      rw [f1, g1]
      omega
def levs (bs : List Int) : List Int := (List.range bs.length).map fun w => lev bs bs.length (w : Nat)

theorem log_small {x : Int} (h : x.natAbs < 10 ^ 70) : x.natAbs.log2 < 1920 := by
  by_cases h0 : x.natAbs = 0
  · rw [h0]; decide
  · exact (Nat.log2_lt h0).mpr (Nat.lt_trans h (by decide))
abbrev intsD (cs : List Int) : D := .lst (cs.map D.int)
theorem lenI (r : List Int) : lenD (intsD r) = some (.int r.length) := by show some (D.int ((r.map D.int).length : Nat)) = _; rw [List.length_map]
/-- k steps on; -1 stays -1 -/
def up (cs : List Int) : Nat → Int → Int
  | 0, w => w
  | k + 1, w => if up cs k w = -1 then -1 else cs.getD (up cs k w).toNat 0
theorem up_succ {cs : List Int} {k : Nat} {w : Int} (h : up cs k w ≠ -1) : up cs (k + 1) w = cs.getD (up cs k w).toNat 0 := by
  show (if up cs k w = -1 then -1 else cs.getD (up cs k w).toNat 0) = _
  rw [if_neg h]
theorem up_neg {cs : List Int} {w : Int} {k : Nat} (h : up cs k w = -1) : ∀ {j : Nat}, k ≤ j → up cs j w = -1 := by
  intro j hj
  induction j with
  | zero => have : k = 0 := by omega
            rw [this] at h; exact h
  | succ j ih =>
    by_cases e : k = j + 1
    · rw [← e]; exact h
    · show (if up cs j w = -1 then -1 else cs.getD (up cs j w).toNat 0) = -1
      rw [if_pos (ih (by omega))]
def In (cs : List Int) : Prop := ∀ v ∈ cs, -1 ≤ v ∧ v < (cs.length : Int)
theorem up_in {cs : List Int} (h : In cs) {w : Int} (hw : 0 ≤ w ∧ w < (cs.length : Int)) : ∀ k, -1 ≤ up cs k w ∧ up cs k w < (cs.length : Int)
  | 0 => by show -1 ≤ w ∧ w < _; omega
  | k + 1 => by
    have ih := up_in h hw k
    by_cases e : up cs k w = -1
    · rw [up_neg e (by omega)]; omega
    · rw [up_succ e]
      exact h _ (mem_getD (by omega))
theorem level_ofF {cs : List Int} (h : In cs) {w : Int} (hw : 0 ≤ w ∧ w < (cs.length : Int)) {e : Nat} (he : e < cs.length) (hn : up cs (e + 1) w = -1) : ∃ d, F_level_of [intsD cs, .int w] = some d := by
  obtain ⟨d, e1, _⟩ := run_ofF F_level_of_def (ds := [intsD cs, .int w]) (P := fun _ => True) (by
    rw [st_level_of]
    unfold B_level_of
    refine wp_seq (wp_set rfl ?_)
    walk_at "st"
    refine wp_seq (wp_set (ev_scal (ev_ix rfl rfl (ixI (by omega) (by omega))) rfl) ?_)
    walk_at "st"
    have u0 : up cs 0 w = w := rfl
    refine wp_seq (wp_while (fun m ρ => ∃ i : Nat, m = cs.length - i ∧ i < cs.length ∧ up cs i w ≠ -1 ∧ ρ = [.bo (intsD cs), .bo (.int w), .pu (.int (1 + i)), .pu (.int (up cs (i + 1) w))]) cs.length ⟨0, rfl, by omega, by rw [u0]; omega, by rw [up_succ (by rw [u0]; omega), u0]; rfl⟩ ?_)
    rintro m ρ ⟨i, rfl, hi, hu, rfl⟩
    refine ⟨_, ev_t (ev_neF rfl (ev_neg rfl)), fun c => ?_, fun c => ?_⟩
    · have c := of_decide_eq_true c
      have hie : i < e := by
        refine Decidable.byContradiction fun z => c (up_neg hn (by omega))
      refine wp_seq (wp_aug rfl rfl ?_)
      walk_at "st"
      refine wp_seq (wp_ifp (ev_t (ev_gt rfl (ev_f1 rfl (lenI cs)))) (fun c2 => ?_) fun _ => wp_pass ?_)
      · have c2 : (cs.length : Int) < 1 + i + 1 := c2
        omega
      · have hr := up_in h hw (i + 1)
        refine wp_set (ev_scal (ev_ix rfl rfl (ixI (by omega) (by omega))) rfl) ?_
        walk_at "st"
        refine ⟨cs.length - (i + 1), by omega, i + 1, rfl, by omega, c, ?_⟩
        rw [up_succ c]
        have e2 : (1 : Int) + ((i + 1 : Nat) : Int) = 1 + i + 1 := by omega
        rw [e2]
    · exact wp_ret rfl trivial)
  exact ⟨d, e1⟩
theorem level_ofX {cs : List Int} (h : In cs) (hl : cs.length ≤ 1000) {w : Int} (hw : 0 ≤ w ∧ w < (cs.length : Int)) (hn : ∀ k, k ≤ cs.length → up cs k w ≠ -1) : ∃ d, X_level_of [intsD cs, .int w] = some d := by
  obtain ⟨d, e1, _⟩ := run_ofG X_level_of_def (ds := [intsD cs, .int w]) (P := fun _ => True) (by
    rw [st_level_of]
    unfold BX_level_of
    refine wp_seq (wp_set rfl ?_)
    walk_at "st"
    refine wp_seq (wp_set (ev_scal (ev_ix rfl rfl (ixI (by omega) (by omega))) rfl) ?_)
    walk_at "st"
    have u0 : up cs 0 w = w := rfl
    refine wp_seq (wp_while (fun m ρ => ∃ i : Nat, m = cs.length - i ∧ i < cs.length ∧ ρ = [.bo (intsD cs), .bo (.int w), .pu (.int (1 + i)), .pu (.int (up cs (i + 1) w))]) cs.length ⟨0, rfl, by omega, by rw [up_succ (by rw [u0]; omega), u0]; rfl⟩ ?_)
    rintro m ρ ⟨i, rfl, hi, rfl⟩
    have hne := hn (i + 1) (by omega)
    refine ⟨true, ?_, fun c => ?_, fun c => by cases c⟩
    · rw [ev_t (ev_neF rfl (ev_neg rfl)), decide_eq_true hne]
    · refine wp_seq (wp_aug rfl rfl ?_)
      walk_at "st"
      refine wp_seq (wp_ifp (ev_t (ev_gt rfl (ev_f1 rfl (lenI cs)))) (fun c2 => ?_) fun c2 => wp_pass ?_)
      · exact wp_raise (fmt_cons rfl (log_small (by have : w.natAbs < 1000 := by omega
                                                    exact Nat.lt_trans this (by decide))) fmt_nil) trivial
      · have c2 : ¬ (cs.length : Int) < 1 + i + 1 := c2
        have hr := up_in h hw (i + 1)
        refine wp_set (ev_scal (ev_ix rfl rfl (ixI (by omega) (by omega))) rfl) ?_
        walk_at "st"
        refine ⟨cs.length - (i + 1), by omega, i + 1, rfl, by omega, ?_⟩
        rw [up_succ hne]
        have e2 : (1 : Int) + ((i + 1 : Nat) : Int) = 1 + i + 1 := by omega
        rw [e2])
  exact ⟨d, e1⟩
/-- what is refused -/
structure Ref (cs : List Int) : Prop where
  big : cs.length ≤ 40
  wr : ∀ v ∈ cs, v.natAbs < 10 ^ 70
  why : ¬ In cs ∨ (In cs ∧ ∃ w : Int, (0 ≤ w ∧ w < (cs.length : Int)) ∧ ∀ k, up cs k w ≠ -1)
theorem x_levels {cs : List Int} (h : Ref cs) : ∃ d, X_levels [intsD cs] = some d := by
  have hline : sizeLine = 16777216 := sizeLine_eq
  have hb := h.big
  obtain ⟨d, e, _⟩ := run_ofG X_levels_def (ds := [intsD cs]) (P := fun _ => True) (by
    rw [st_levels]
    unfold BX_levels
    refine wp_seq (wp_for (ev_asL (d := intsD cs) rfl rfl) (fun j ρ => (∀ v ∈ cs.take j, -1 ≤ v ∧ v < (cs.length : Int)) ∧ ∃ v1, ρ = [.bo (intsD cs), v1]) ⟨(fun _ z => by cases z), _, rfl⟩ ?_ ?_)
    · rintro j d ρ hd ⟨hj, v1, rfl⟩
      rw [List.getElem?_map] at hd
      cases er : cs[j]? with
      | none => rw [er] at hd; cases hd
      | some v =>
        rw [er] at hd
        cases hd
        refine ⟨_, rfl, ?_⟩
        dsimp only [gN, slm, List.set_cons_succ, List.set_cons_zero]
        have key : dT (dChain (fun i j => decide (i ≤ j)) (fun i j => decide (i < j)) (dNeg (dC (.int 1))) (dVar 1) (dF1 lenD (dVar 0))) [.bo (intsD cs), .bo (.int v)] = some (decide (-1 ≤ v ∧ v < (cs.length : Int))) := by
          refine ev_t ?_
          rw [ev_chain (i := -1) (j := v) (k := (cs.length : Int)) (ev_neg rfl) rfl (ev_f1 rfl (lenI cs))]
          congr 2
          rw [Bool.eq_iff_iff]
          simp
        refine wp_if (ev_not key) (fun c => ?_) fun c => wp_pass ⟨fun x hx => ?_, _, rfl⟩
        · exact wp_raise (fmt_cons rfl (log_small (h.wr v (List.mem_of_getElem? er))) fmt_nil) trivial
        · rw [List.take_succ, er] at hx
          rcases List.mem_append.mp hx with hx | hx
          · exact hj x hx
          · cases List.mem_singleton.mp hx
            rw [Bool.not_eq_false'] at c
            exact of_decide_eq_true c
    · rintro ρ ⟨hj, v1, rfl⟩
      rw [List.length_map, List.take_length] at hj
      have hin : In cs := hj
      rcases h.why with hx | ⟨_, w, hw, hx⟩
      · exact absurd hin hx
      · have er : dRg1 (dF1 lenD (dVar 0)) [.bo (intsD cs), v1] = some ((List.range cs.length).map fun (k : Nat) => D.int (k : Int)) := by
          rw [ev_rg1 (ev_f1 rfl (lenI cs)) (by omega)]
          unfold upL
          rw [Int.toNat_natCast]
          refine congrArg some (List.map_congr_left fun k _ => ?_)
          rw [Int.zero_add]
        refine wp_xcomp er (raises_of (fun (k : Nat) => D.int (k : Int)) (fun k hk => ⟨_, rfl, ?_⟩) ⟨w.toNat, List.mem_range.mpr (by omega), fun ρ1 e1 => ?_⟩) trivial
        · have hk := List.mem_range.mp hk
          have hw' : (0 : Int) ≤ (k : Int) ∧ (k : Int) < (cs.length : Int) := by omega
          by_cases he : ∃ e, e < cs.length ∧ up cs (e + 1) (k : Int) = -1
          · obtain ⟨e, he, hu⟩ := he
            obtain ⟨d, e2⟩ := level_ofF hin hw' he hu
            exact .inr ⟨d, ev_call (ev_cons rfl (ev_cons rfl rfl)) e2⟩
          · obtain ⟨d, e2⟩ := level_ofX hin (by omega) hw' fun j hj z => by
              cases j with
              | zero => have z : (k : Int) = -1 := z
                        omega
              | succ j => exact he ⟨j, by omega, z⟩
            exact .inl ⟨d, ev_call (ev_cons rfl (ev_cons rfl rfl)) e2⟩
        · cases e1
          have ew : ((w.toNat : Nat) : Int) = w := by omega
          obtain ⟨d, e2⟩ := level_ofX hin (by omega) hw fun j _ => hx j
          refine ⟨d, ev_call (ev_cons rfl (ev_cons rfl rfl)) ?_⟩
          rw [ew]
          exact e2)
  exact ⟨d, e⟩
theorem x_tree {cs : List Int} (h : Ref cs) (b : Int) : ∃ d, X_tree_turns [intsD cs, .int b] = some d := by
  obtain ⟨d, e⟩ := x_levels h
  obtain ⟨d, e, _⟩ := run_ofG X_tree_turns_def (ds := [intsD cs, .int b]) (P := fun _ => True) (by
    rw [st_tree_turns]
    unfold BX_tree_turns
    exact wp_seq (wp_x (ev_call (ev_cons rfl rfl) e) trivial))
  exact ⟨d, e⟩
theorem x_shown {cs : List Int} (h : Ref cs) (b l : Int) : ∃ d, X_turns_shown [intsD cs, .int b, .int l] = some d := by
  obtain ⟨d, e⟩ := x_levels h
  obtain ⟨d, e, _⟩ := run_ofG X_turns_shown_def (ds := [intsD cs, .int b, .int l]) (P := fun _ => True) (by
    rw [st_turns_shown]
    unfold BX_turns_shown
    exact wp_x (ev_call (ev_cons rfl rfl) e) trivial)
  exact ⟨d, e⟩
theorem x_why {cs : List Int} (h : Ref cs) (b : Int) : ∃ d, X_why_tree [intsD cs, .int b] = some d := by
  obtain ⟨d, e⟩ := x_tree h b
  obtain ⟨d, e, _⟩ := run_ofG X_why_tree_def (ds := [intsD cs, .int b]) (P := fun _ => True) (by
    rw [st_why_tree]
    unfold BX_why_tree
    exact wp_seq (wp_x (ev_call (ev_cons rfl (ev_cons rfl rfl)) e) trivial))
  exact ⟨d, e⟩
theorem eqk {i j : Int} {ρ : Rho} {a : DE} (h : a ρ = some (.int i)) : dT (dEq false a (dC (.int j))) ρ = some (decide (i = j)) := ev_t (ev_eqF h rfl)
theorem x_asked {cs : List Int} (h : Ref cs) (b l : Int) (k : Nat) (hk : k < 4) : ∃ d, X_l_asked [.int (k : Int), intsD cs, .int b, .int l] = some d := by
  obtain ⟨d0, e0⟩ := x_levels h
  obtain ⟨d1, e1⟩ := x_tree h b
  obtain ⟨d2, e2⟩ := x_shown h b l
  obtain ⟨d3, e3⟩ := x_why h b
  obtain ⟨d, e, _⟩ := run_ofG X_l_asked_def (ds := [.int (k : Int), intsD cs, .int b, .int l]) (P := fun _ => True) (by
    rw [st_l_asked]
    unfold BX_l_asked
    refine wp_seq (wp_ifp (eqk rfl) (fun _ => wp_x (ev_call (ev_cons rfl rfl) e0) trivial) fun n0 => wp_pass ?_)
    refine wp_seq (wp_ifp (eqk rfl) (fun _ => wp_x (ev_call (ev_cons rfl (ev_cons rfl rfl)) e1) trivial) fun n1 => wp_pass ?_)
    refine wp_seq (wp_ifp (eqk rfl) (fun _ => wp_x (ev_call (ev_cons rfl (ev_cons rfl (ev_cons rfl rfl))) e2) trivial) fun n2 => wp_pass ?_)
    refine wp_ifp (eqk rfl) (fun _ => wp_x (ev_call (ev_cons rfl (ev_cons rfl rfl)) e3) trivial) fun n4 => ?_
    omega)
  exact ⟨d, e⟩
theorem refused {cs : List Int} (h : Ref cs) (b l : Int) (k : Nat) (hk : k < 4) : F_l_refused [.int (k : Int), intsD cs, .int b, .int l] = some (.bl true) := by
  obtain ⟨d, e⟩ := x_asked h b l k hk
  refine run_eqF F_l_refused_def ?_
  rw [st_l_refused]
  unfold B_l_refused
  refine wp_seq (wp_set rfl ?_)
  walk_at "st"
  exact wp_refused (by simp only [List.length_cons, List.length_nil]; omega) (ev_call (ev_cons rfl (ev_cons rfl (ev_cons rfl (ev_cons rfl rfl)))) e) rfl
theorem wp_cut {s r : DS} {ρ : Rho} {W : Wk} (I : Rho → Prop) (h : Wp s ρ { W with nx := I }) (k : ∀ ρ', I ρ' → Wp r ρ' W) : Wp (sSeq s r) ρ W := by
  refine wp_seq ?_
  unfold Wp at *
  cases e : s ρ with
  | nx ρ' => rw [e] at h; exact k ρ' h
  | rt d => rw [e] at h; exact h
  | bk ρ' => rw [e] at h; exact h
  | ct ρ' => rw [e] at h; exact h
  | no => rw [e] at h; exact h
theorem ix4D (x y z w : D) {r : Int} (h0 : 0 ≤ r) (h4 : r < 4) : ∃ v, ixD (.lst [x, y, z, w]) r = some v ∧ (v = x ∨ v = y ∨ v = z ∨ v = w) := by
  have : r = 0 ∨ r = 1 ∨ r = 2 ∨ r = 3 := by omega
  rcases this with rfl | rfl | rfl | rfl
  · exact ⟨x, rfl, .inl rfl⟩
  · exact ⟨y, rfl, .inr (.inl rfl)⟩
  · exact ⟨z, rfl, .inr (.inr (.inl rfl))⟩
  · exact ⟨w, rfl, .inr (.inr (.inr rfl))⟩
theorem cut_hi {xs : List D} (k : Nat) (h : k ≤ xs.length) : cutL xs none (some (k : Int)) = xs.take k := by
  unfold cutL
  rw [HT.sIx_none, HT.sIx_nat, List.drop_zero, Nat.min_eq_left h, Nat.sub_zero]
theorem cut_lo {xs : List D} (k : Nat) : cutL xs (some (k : Int)) none = xs.drop k := by
  unfold cutL
  rw [HT.sIx_none, HT.sIx_nat]
  by_cases h : k ≤ xs.length
  · rw [Nat.min_eq_left h, List.take_of_length_le (by rw [List.length_drop]; omega)]
  · rw [List.drop_eq_nil_of_le (by omega), List.drop_eq_nil_of_le (by omega), List.take_nil]
theorem put_ev {bs : List Int} {l : Nat} (hl : l < bs.length) (hb : bs.length ≤ 1000) {x : Int} {ρ : Rho} {i j : Nat} (h0 : dVarI 0 ρ = some (intsD bs)) (h1 : dVar i ρ = some (.int (l : Int))) (h2 : dVarI j ρ = some (.int x)) :
    dLst (dCat (dLst (dCat (dLst (dSl (dVarI 0) oNone (oSome (dVar i)))) (dLst (dCons (dVarI j) dNil)))) (dLst (dSl (dVarI 0) (oSome (dAdd (dVar i) (dC (.int 1)))) oNone))) ρ = some (intsD (bs.set l x)) := by
  have hline : sizeLine = 16777216 := sizeLine_eq
  have cA : cutL (bs.map D.int) none (some (l : Int)) = (bs.take l).map D.int := by rw [cut_hi l (by rw [List.length_map]; omega), List.map_take]
  have cB : cutL (bs.map D.int) (some ((l : Int) + 1)) none = (bs.drop (l + 1)).map D.int := by
    have := cut_lo (xs := bs.map D.int) (l + 1)
    rw [List.map_drop, ← this]
    rfl
  have lA : (bs.take l).length = l := by rw [List.length_take]; omega
  have lB : (bs.drop (l + 1)).length = bs.length - (l + 1) := by rw [List.length_drop]
  rw [ev_lst (ev_cat (ev_lst (ev_cat (ev_lst (ev_sl (ev_asL h0 rfl) rfl (ev_oSome h1))) (ev_lst (ev_cons h2 rfl)) (by rw [cA, List.length_map, lA]; show l + 1 ≤ _; omega))) (ev_lst (ev_sl (ev_asL h0 rfl) (ev_oSome (ev_add h1 rfl)) rfl)) (by rw [cA, cB, List.length_append, List.length_map, List.length_map, lA, lB]; show l + 1 + _ ≤ _; omega)), cA, cB, List.set_eq_take_append_cons_drop, if_pos hl]
  show _ = some (D.lst ((bs.take l ++ x :: bs.drop (l + 1)).map D.int))
  rw [List.map_append, List.map_cons, List.append_assoc]
  rfl
theorem par_in {p bs : List Int} (hp : Names p p.length) (hb : Par p bs) : In bs := fun v hv => by
  obtain ⟨w, hw, rfl⟩ := List.getElem_of_mem hv
  have hbl := hb.1
  have e : bs.getD w 0 = bs[w] := by rw [List.getD_eq_getElem?_getD, List.getElem?_eq_getElem hw]; rfl
  rcases hb.2 w hw with h | ⟨j, k, h1, h2, _, h3⟩
  · rw [e] at h; omega
  · have := hp.all _ (mem_getD (p := p) (k := j) (by omega))
    rw [e] at h3
    omega
/-- the last of the way is led back to its begin: the way has no end -/
theorem no_end {bs : List Int} {a l : Int} {j : Nat} (hb : In bs) (ha : 0 ≤ a) (hl : 0 ≤ l ∧ l < (bs.length : Int)) (hj : up bs j a = l) (he : bs.getD l.toNat 0 = -1) : ∀ k, ∃ i, up (bs.set l.toNat a) k a = up bs i a ∧ up bs i a ≠ -1
  | 0 => ⟨0, rfl, by show a ≠ -1; omega⟩
  | k + 1 => by
    obtain ⟨i, e1, h1⟩ := no_end hb ha hl hj he k
    have hjn : up bs (j + 1) a = -1 := by rw [up_succ (by rw [hj]; omega), hj]; exact he
    rw [up_succ (by rw [e1]; exact h1), e1, getD_setI (by omega)]
    by_cases hv : (up bs i a).toNat = l.toNat
    · rw [if_pos hv]
      exact ⟨0, rfl, by show a ≠ -1; omega⟩
    · rw [if_neg hv, ← up_succ h1]
      refine ⟨i + 1, rfl, fun z => ?_⟩
      by_cases hji : j ≤ i
      · by_cases e : j = i
        · rw [e] at hj; rw [hj] at hv; exact hv rfl
        · exact h1 (up_neg hjn (by omega))
      · have := up_neg z (j := j) (by omega)
        rw [hj] at this
        omega
theorem pow50 {ρ : Rho} : dPow (dC (.int 10)) (dC (.int 50)) ρ = some (.int (10 ^ 50)) := ev_pow (i := 10) (j := 50) rfl rfl (by unfold CPow; decide)
theorem l_bent {p bs : List Int} (ns : List Int) (hp : Names p p.length) (hb : Par p bs) (h1 : 1 ≤ bs.length) (h2 : bs.length ≤ 40) : ∃ cs : List Int, F_l_bent [intsD bs, .scr ns] = some (intsD cs) ∧ Ref cs := by
  have hline : sizeLine = 16777216 := sizeLine_eq
  have hin := par_in hp hb
  have hbl := hb.1
  have small : ∀ v ∈ bs, v.natAbs < 10 ^ 70 := fun v hv => by
    have := hin v hv
    have : v.natAbs < 100 := by omega
    exact Nat.lt_trans this (by decide)
  obtain ⟨d, e, cs, rfl, hcs⟩ := run_ofF F_l_bent_def (ds := [intsD bs, .scr ns]) (P := fun d => ∃ cs : List Int, d = intsD cs ∧ Ref cs) (by
    rw [st_l_bent]
    unfold B_l_bent
    refine wp_seq (wp_set (by walk_at "ev") ?_)
    walk_at "st"
    generalize hN : mixedZ (ns.getD (2 : Int).toNat 0) 98 = N
    refine wp_seq (wp_set (ev_mod (by walk_at "ev") pow50 (by decide)) ?_)
    walk_at "st"
    have f0 := Int.emod_nonneg (ns.getD (3 : Int).toNat 0) (show (10 ^ 50 : Int) ≠ 0 by decide)
    have f1 := Int.emod_lt_of_pos (ns.getD (3 : Int).toNat 0) (show (0 : Int) < 10 ^ 50 by decide)
    generalize ns.getD (3 : Int).toNat 0 % 10 ^ 50 = far at f0 f1
    have a0 := Int.emod_nonneg (N / 8) (show (bs.length : Int) ≠ 0 by omega)
    have a1 := Int.emod_lt_of_pos (N / 8) (show (0 : Int) < (bs.length : Int) by omega)
    refine wp_seq (wp_set (ev_mod (ev_fdiv rfl rfl (fdok (by omega) (by omega))) (ev_f1 rfl (lenI bs)) (by omega)) ?_)
    walk_at "st"
    generalize N / 8 % (bs.length : Int) = z at a0 a1
    obtain ⟨a, rfl⟩ : ∃ a : Nat, z = a := ⟨z.toNat, by omega⟩
    refine wp_seq (wp_ifp (ev_t (ev_lt (ev_mod rfl rfl (by decide)) rfl)) (fun c => ?_) fun c => wp_pass ?_)
    · refine wp_seq (wp_set rfl ?_)
      walk_at "st"
      obtain ⟨k0, hk0, ek0⟩ := place hp (w := (a : Int)) (by omega) (by omega)
      refine wp_seq (wp_while (fun m ρ => ∃ (k j : Nat), k < p.length ∧ m = k ∧ up bs j (a : Int) = p.getD k 0 ∧ ρ = [.pu (intsD bs), .bo (.scr ns), .pu (.int N), .pu (.int far), .pu (.int (a : Int)), .pu (.int (p.getD k 0)), .un]) k0 ⟨k0, 0, hk0, rfl, by rw [ek0]; rfl, by rw [ek0]⟩ ?_)
      rintro m ρ ⟨k, j, hk, em, hj, rfl⟩
      have hr := hp.all _ (mem_getD hk)
      refine ⟨_, ev_t (ev_neF (ev_ix rfl rfl (ixI (by omega) (by omega))) (ev_neg rfl)), fun c2 => ?_, fun c2 => ?_⟩
      · have c2 := of_decide_eq_true c2
        refine wp_set (ev_ix rfl rfl (ixI (by omega) (by omega))) ?_
        walk_at "st"
        rcases lev_step hp hb hk with e | ⟨j', hj', e⟩
        · exact absurd e c2
        · rw [e]
          refine ⟨j', by omega, j', j + 1, by omega, rfl, ?_, rfl⟩
          rw [up_succ (by rw [hj]; omega), hj, e]
      · have c2 : bs.getD (p.getD k 0).toNat 0 = -1 := Decidable.byContradiction fun z => by
          rw [decide_eq_true (show bs.getD (p.getD k 0).toNat 0 ≠ -1 from z)] at c2
          cases c2
        obtain ⟨l, el⟩ : ∃ l : Nat, p.getD k 0 = l := ⟨(p.getD k 0).toNat, by omega⟩
        rw [el] at hj hr c2 ⊢
        refine wp_ret (put_ev (l := l) (x := (a : Int)) (i := 5) (j := 4) (by omega) (by omega) rfl rfl rfl) ⟨_, rfl, by rw [List.length_set]; exact h2, fun v hv => ?_, .inr ⟨fun v hv => ?_, (a : Int), ?_, fun k => ?_⟩⟩
        · rcases List.mem_or_eq_of_mem_set hv with hv | rfl
          · exact small v hv
          · have : ((a : Nat) : Int).natAbs < 100 := by omega
            exact Nat.lt_trans this (by decide)
        · rw [List.length_set]
          rcases List.mem_or_eq_of_mem_set hv with hv | rfl
          · exact hin v hv
          · omega
        · rw [List.length_set]; omega
        · obtain ⟨i, e1, e2⟩ := no_end hin (a := (a : Int)) (l := (l : Int)) (by omega) (by omega) hj c2 k
          rw [Int.toNat_natCast] at e1
          rw [e1]
          exact e2
    · have c : ¬ N % 8 < 4 := c
      obtain ⟨v, ev, hv⟩ := ix4D (.int (-2)) (.int (-2 - far)) (.int (bs.length : Int)) (.int ((bs.length : Int) + far)) (r := N % 8 - 4) (by omega) (by omega)
      obtain ⟨one, rfl, ho⟩ : ∃ one : Int, v = .int one ∧ (one < -1 ∨ (bs.length : Int) ≤ one) ∧ one.natAbs < 10 ^ 70 := by
        have big : ∀ x : Int, -(10 ^ 60) < x → x < 10 ^ 60 → x.natAbs < 10 ^ 70 := fun x h h' => by omega
        rcases hv with rfl | rfl | rfl | rfl
        · exact ⟨_, rfl, .inl (by omega), big _ (by omega) (by omega)⟩
        · exact ⟨_, rfl, .inl (by omega), big _ (by omega) (by omega)⟩
        · exact ⟨_, rfl, .inr (by omega), big _ (by omega) (by omega)⟩
        · exact ⟨_, rfl, .inr (by omega), big _ (by omega) (by omega)⟩
      refine wp_seq (wp_set (ev_ix (ev_lst (ev_cons (ev_neg rfl) (ev_cons (ev_sub (ev_neg rfl) rfl) (ev_cons (ev_f1 rfl (lenI bs)) (ev_cons (ev_add (ev_f1 rfl (lenI bs)) rfl) rfl))))) (ev_sub (ev_mod rfl rfl (by decide)) rfl) ev) ?_)
      walk_at "st"
      refine wp_ret (put_ev (l := a) (x := one) (i := 4) (j := 6) (by omega) (by omega) rfl rfl rfl) ⟨_, rfl, by rw [List.length_set]; exact h2, fun v hv => ?_, .inl fun q => ?_⟩
      · rcases List.mem_or_eq_of_mem_set hv with hv | rfl
        · exact small v hv
        · exact ho.2
      · have := q one (List.mem_set (by omega) one)
        rw [List.length_set] at this
        omega)
  exact ⟨cs, e, hcs⟩
theorem benches (ns : List Int) : ∃ b : Int, F_l_benches [.scr ns] = some (.int b) := by
  obtain ⟨d, e, b, rfl⟩ := run_ofF F_l_benches_def (ds := [.scr ns]) (P := fun d => ∃ b : Int, d = .int b) (by
    rw [st_l_benches]
    unfold B_l_benches
    refine wp_seq (wp_set (by walk_at "ev") ?_)
    walk_at "st"
    exact wp_ret (by walk_at "ev") ⟨_, rfl⟩)
  exact ⟨b, e⟩
theorem ev_neSame {a b : DE} {ρ : Rho} {d : D} (ha : a ρ = some d) (hb : b ρ = some d) (h : cmpb 20 d d = true) : dEq true a b ρ = some (.bl false) := by
  rw [ev_eq ha hb h, if_pos rfl]
  simp
theorem law_true (ns : List Int) (hl : ns.length ≤ 63) (hb : ∀ m ∈ ns, Builtin.Int.intBits m ≤ 1048576) : F_law [.scr ns] = some (.bl true) := by
  have hline : sizeLine = 16777216 := sizeLine_eq
  obtain ⟨p, bs, e1, hp, hm, hpar⟩ := behind ns hl
  obtain ⟨bn, e3⟩ := benches ns
  refine run_eqF F_law_def ?_
  rw [st_law]
  unfold B_law
  refine wp_seq (wp_set (ev_call (ev_cons rfl (ev_cons rfl rfl)) e1) ?_)
  walk_at "st"
  refine wp_cut (fun ρ => ∃ p bs : List Int, Names p p.length ∧ Par p bs ∧ 1 ≤ bs.length ∧ bs.length ≤ 40 ∧ ρ = [.bo (.scr ns), .pu (intsD bs), .un, .un, .un, .un, .un]) ?_ ?_
  · have hq := hpar.1
    cases bs with
    | nil =>
      refine wp_ifT (ev_t (ev_eqSame (d := .lst []) rfl rfl rfl)) ?_
      refine wp_set (ev_lst (ev_cons (ev_neg rfl) rfl)) ?_
      refine ⟨[0], [-1], ⟨rfl, fun x hx => ?_, by simp⟩, ⟨rfl, fun w hw => ?_⟩, by simp, by simp, rfl⟩
      · cases List.mem_singleton.mp hx
        decide
      · have : w = 0 := by simpa using hw
        subst this
        exact .inl rfl
    | cons x r =>
      refine wp_ifF (ev_t ?_) (wp_pass ⟨p, x :: r, hp, hpar, by simp, by omega, rfl⟩)
      rw [ev_eq (neg := false) (d := intsD (x :: r)) (e := .lst []) rfl rfl (cmp_ints (x :: r) []), if_neg Bool.false_ne_true]
      simp
  · rintro ρ ⟨p, bs, hp, hpar, h1, h2, rfl⟩
    obtain ⟨cs, e2, hr⟩ := l_bent ns hp hpar h1 h2
    refine wp_seq (wp_set (ev_call (ev_cons rfl (ev_cons rfl rfl)) e2) ?_)
    walk_at "st"
    refine wp_seq (wp_set (ev_call (ev_cons rfl rfl) e3) ?_)
    walk_at "st"
    refine wp_seq (wp_set (by walk_at "ev") ?_)
    walk_at "st"
    generalize mixedZ (ns.getD (2 : Int).toNat 0) 97 % 61 = ht
    refine wp_seq (wp_set (d := intsD cs) (ev_lst (ev_lof rfl rfl)) ?_)
    walk_at "st"
    refine wp_seq (wp_for (ev_rg1 (i := 4) rfl (by omega)) (fun j ρ => ∃ v6, ρ = [.bo (.scr ns), .pu (intsD bs), .pu (intsD cs), .pu (.int bn), .pu (.int ht), .pu (intsD cs), v6]) ⟨_, rfl⟩ ?_ ?_)
    · rintro k d ρ hd ⟨v6, rfl⟩
      obtain ⟨hk, rfl⟩ := upL_at hd
      refine ⟨_, rfl, ?_⟩
      dsimp only [gN, slm, List.set_cons_succ, List.set_cons_zero]
      rw [Int.zero_add]
      have hk : k < 4 := hk
      exact wp_ifF (ev_or (x := false) (y := false) (ev_not (x := true) (ev_tru (ev_call (ev_cons rfl (ev_cons rfl (ev_cons rfl (ev_cons rfl rfl)))) (refused hr bn ht k hk)) rfl)) fun _ => ev_t (ev_neSame rfl rfl (cmp_ints _ _))) (wp_pass ⟨_, rfl⟩)
    · rintro ρ ⟨v6, rfl⟩
      exact wp_ret rfl rfl
theorem all_mk {K : PySem.W.Frag} {h : Heap} {mg : Str → Option Value} {fa : Addr} (X : K.In h) (G : h.Ns mainGlobals mg) (hfa : mg "law" = some (.ref fa))
    {f0 : Addr} {od0 an0 : Option Addr} {sl0 : Array (Option Value)} {oc0 kV0 dc0 pm0 cd0 ct0 : Value}
    {f1 : Addr} {od1 an1 : Option Addr} {sl1 : Array (Option Value)} {oc1 kV1 dc1 pm1 cd1 ct1 : Value}
    {f2 : Addr} {od2 an2 : Option Addr} {sl2 : Array (Option Value)} {oc2 kV2 dc2 pm2 cd2 ct2 : Value}
    {f3 : Addr} {od3 an3 : Option Addr} {sl3 : Array (Option Value)} {oc3 kV3 dc3 pm3 cd3 ct3 : Value}
    {f4 : Addr} {od4 an4 : Option Addr} {sl4 : Array (Option Value)} {oc4 kV4 dc4 pm4 cd4 ct4 : Value}
    {f5 : Addr} {od5 an5 : Option Addr} {sl5 : Array (Option Value)} {oc5 kV5 dc5 pm5 cd5 ct5 : Value}
    {f6 : Addr} {od6 an6 : Option Addr} {sl6 : Array (Option Value)} {oc6 kV6 dc6 pm6 cd6 ct6 : Value}
    {f7 : Addr} {od7 an7 : Option Addr} {sl7 : Array (Option Value)} {oc7 kV7 dc7 pm7 cd7 ct7 : Value}
    {f8 : Addr} {od8 an8 : Option Addr} {sl8 : Array (Option Value)} {oc8 kV8 dc8 pm8 cd8 ct8 : Value}
    {f9 : Addr} {od9 an9 : Option Addr} {sl9 : Array (Option Value)} {oc9 kV9 dc9 pm9 cd9 ct9 : Value}
    {f10 : Addr} {od10 an10 : Option Addr} {sl10 : Array (Option Value)} {oc10 kV10 dc10 pm10 cd10 ct10 : Value}
    {f11 : Addr} {od11 an11 : Option Addr} {sl11 : Array (Option Value)} {oc11 kV11 dc11 pm11 cd11 ct11 : Value}
    {f12 : Addr} {od12 an12 : Option Addr} {sl12 : Array (Option Value)} {oc12 kV12 dc12 pm12 cd12 ct12 : Value}
    {f13 : Addr} {od13 an13 : Option Addr} {sl13 : Array (Option Value)} {oc13 kV13 dc13 pm13 cd13 ct13 : Value}
    {f14 : Addr} {od14 an14 : Option Addr} {sl14 : Array (Option Value)} {oc14 kV14 dc14 pm14 cd14 ct14 : Value}
    {f15 : Addr} {od15 an15 : Option Addr} {sl15 : Array (Option Value)} {oc15 kV15 dc15 pm15 cd15 ct15 : Value}
    {c_NoOrder : Addr}
    {c_FloorError : Addr}
    {c_NoRoom : Addr}
    {c_NoText : Addr}
    {c_NoKind : Addr}
    {c_NoFloor : Addr}
    {c_NoRow : Addr}
    {c_NoName : Addr}
    (a0 : PySem.W.nsIn K mainGlobals "divided_up" = some (some (.ref f0))) (l0 : K.lookup f0 = some ⟨oc0, od0, .func (PySem.W.fnOf "divided_up" "divided_up" (defArgs s_divided_up) (defBody s_divided_up) (defScope s_divided_up) .none kV0 dc0 pm0 an0 cd0 ct0), sl0⟩) (c0 : PySem.W.codeIn K cd0 "divided_up" = true) (k0 : PySem.W.keepIn K (.ref f0) = true)
    (a1 : PySem.W.nsIn K mainGlobals "levels" = some (some (.ref f1))) (l1 : K.lookup f1 = some ⟨oc1, od1, .func (PySem.W.fnOf "levels" "levels" (defArgs s_levels) (defBody s_levels) (defScope s_levels) .none kV1 dc1 pm1 an1 cd1 ct1), sl1⟩) (c1 : PySem.W.codeIn K cd1 "levels" = true) (k1 : PySem.W.keepIn K (.ref f1) = true)
    (a2 : PySem.W.nsIn K mainGlobals "level_of" = some (some (.ref f2))) (l2 : K.lookup f2 = some ⟨oc2, od2, .func (PySem.W.fnOf "level_of" "level_of" (defArgs s_level_of) (defBody s_level_of) (defScope s_level_of) .none kV2 dc2 pm2 an2 cd2 ct2), sl2⟩) (c2 : PySem.W.codeIn K cd2 "level_of" = true) (k2 : PySem.W.keepIn K (.ref f2) = true)
    (a3 : PySem.W.nsIn K mainGlobals "tree_turns" = some (some (.ref f3))) (l3 : K.lookup f3 = some ⟨oc3, od3, .func (PySem.W.fnOf "tree_turns" "tree_turns" (defArgs s_tree_turns) (defBody s_tree_turns) (defScope s_tree_turns) .none kV3 dc3 pm3 an3 cd3 ct3), sl3⟩) (c3 : PySem.W.codeIn K cd3 "tree_turns" = true) (k3 : PySem.W.keepIn K (.ref f3) = true)
    (a4 : PySem.W.nsIn K mainGlobals "turns_shown" = some (some (.ref f4))) (l4 : K.lookup f4 = some ⟨oc4, od4, .func (PySem.W.fnOf "turns_shown" "turns_shown" (defArgs s_turns_shown) (defBody s_turns_shown) (defScope s_turns_shown) .none kV4 dc4 pm4 an4 cd4 ct4), sl4⟩) (c4 : PySem.W.codeIn K cd4 "turns_shown" = true) (k4 : PySem.W.keepIn K (.ref f4) = true)
    (a5 : PySem.W.nsIn K mainGlobals "shown_by_level" = some (some (.ref f5))) (l5 : K.lookup f5 = some ⟨oc5, od5, .func (PySem.W.fnOf "shown_by_level" "shown_by_level" (defArgs s_shown_by_level) (defBody s_shown_by_level) (defScope s_shown_by_level) .none kV5 dc5 pm5 an5 cd5 ct5), sl5⟩) (c5 : PySem.W.codeIn K cd5 "shown_by_level" = true) (k5 : PySem.W.keepIn K (.ref f5) = true)
    (a6 : PySem.W.nsIn K mainGlobals "why_tree" = some (some (.ref f6))) (l6 : K.lookup f6 = some ⟨oc6, od6, .func (PySem.W.fnOf "why_tree" "why_tree" (defArgs s_why_tree) (defBody s_why_tree) (defScope s_why_tree) .none kV6 dc6 pm6 an6 cd6 ct6), sl6⟩) (c6 : PySem.W.codeIn K cd6 "why_tree" = true) (k6 : PySem.W.keepIn K (.ref f6) = true)
    (a7 : PySem.W.nsIn K mainGlobals "_law_cell_at" = some (some (.ref f7))) (l7 : K.lookup f7 = some ⟨oc7, od7, .func (PySem.W.fnOf "_law_cell_at" "_law_cell_at" (defArgs s_l_cell_at) (defBody s_l_cell_at) (defScope s_l_cell_at) .none kV7 dc7 pm7 an7 cd7 ct7), sl7⟩) (c7 : PySem.W.codeIn K cd7 "_law_cell_at" = true) (k7 : PySem.W.keepIn K (.ref f7) = true)
    (a8 : PySem.W.nsIn K mainGlobals "_law_mixed" = some (some (.ref f8))) (l8 : K.lookup f8 = some ⟨oc8, od8, .func (PySem.W.fnOf "_law_mixed" "_law_mixed" (defArgs s_l_mixed) (defBody s_l_mixed) (defScope s_l_mixed) .none kV8 dc8 pm8 an8 cd8 ct8), sl8⟩) (c8 : PySem.W.codeIn K cd8 "_law_mixed" = true) (k8 : PySem.W.keepIn K (.ref f8) = true)
    (a9 : PySem.W.nsIn K mainGlobals "_law_names" = some (some (.ref f9))) (l9 : K.lookup f9 = some ⟨oc9, od9, .func (PySem.W.fnOf "_law_names" "_law_names" (defArgs s_l_names) (defBody s_l_names) (defScope s_l_names) .none kV9 dc9 pm9 an9 cd9 ct9), sl9⟩) (c9 : PySem.W.codeIn K cd9 "_law_names" = true) (k9 : PySem.W.keepIn K (.ref f9) = true)
    (a10 : PySem.W.nsIn K mainGlobals "_law_behind" = some (some (.ref f10))) (l10 : K.lookup f10 = some ⟨oc10, od10, .func (PySem.W.fnOf "_law_behind" "_law_behind" (defArgs s_l_behind) (defBody s_l_behind) (defScope s_l_behind) .none kV10 dc10 pm10 an10 cd10 ct10), sl10⟩) (c10 : PySem.W.codeIn K cd10 "_law_behind" = true) (k10 : PySem.W.keepIn K (.ref f10) = true)
    (a11 : PySem.W.nsIn K mainGlobals "_law_benches" = some (some (.ref f11))) (l11 : K.lookup f11 = some ⟨oc11, od11, .func (PySem.W.fnOf "_law_benches" "_law_benches" (defArgs s_l_benches) (defBody s_l_benches) (defScope s_l_benches) .none kV11 dc11 pm11 an11 cd11 ct11), sl11⟩) (c11 : PySem.W.codeIn K cd11 "_law_benches" = true) (k11 : PySem.W.keepIn K (.ref f11) = true)
    (a12 : PySem.W.nsIn K mainGlobals "_law_asked" = some (some (.ref f12))) (l12 : K.lookup f12 = some ⟨oc12, od12, .func (PySem.W.fnOf "_law_asked" "_law_asked" (defArgs s_l_asked) (defBody s_l_asked) (defScope s_l_asked) .none kV12 dc12 pm12 an12 cd12 ct12), sl12⟩) (c12 : PySem.W.codeIn K cd12 "_law_asked" = true) (k12 : PySem.W.keepIn K (.ref f12) = true)
    (a13 : PySem.W.nsIn K mainGlobals "_law_refused" = some (some (.ref f13))) (l13 : K.lookup f13 = some ⟨oc13, od13, .func (PySem.W.fnOf "_law_refused" "_law_refused" (defArgs s_l_refused) (defBody s_l_refused) (defScope s_l_refused) .none kV13 dc13 pm13 an13 cd13 ct13), sl13⟩) (c13 : PySem.W.codeIn K cd13 "_law_refused" = true) (k13 : PySem.W.keepIn K (.ref f13) = true)
    (a14 : PySem.W.nsIn K mainGlobals "_law_bent" = some (some (.ref f14))) (l14 : K.lookup f14 = some ⟨oc14, od14, .func (PySem.W.fnOf "_law_bent" "_law_bent" (defArgs s_l_bent) (defBody s_l_bent) (defScope s_l_bent) .none kV14 dc14 pm14 an14 cd14 ct14), sl14⟩) (c14 : PySem.W.codeIn K cd14 "_law_bent" = true) (k14 : PySem.W.keepIn K (.ref f14) = true)
    (a15 : PySem.W.nsIn K mainGlobals "law" = some (some (.ref f15))) (l15 : K.lookup f15 = some ⟨oc15, od15, .func (PySem.W.fnOf "law" "law" (defArgs s_law) (defBody s_law) (defScope s_law) .none kV15 dc15 pm15 an15 cd15 ct15), sl15⟩) (c15 : PySem.W.codeIn K cd15 "law" = true) (k15 : PySem.W.keepIn K (.ref f15) = true)
    (z_ValueError : PySem.W.nsIn K mainGlobals "ValueError" = some none)
    (z_isinstance : PySem.W.nsIn K mainGlobals "isinstance" = some none)
    (z_len : PySem.W.nsIn K mainGlobals "len" = some none)
    (z_list : PySem.W.nsIn K mainGlobals "list" = some none)
    (z_min : PySem.W.nsIn K mainGlobals "min" = some none)
    (z_range : PySem.W.nsIn K mainGlobals "range" = some none)
    (m_NoOrder : PySem.W.nsIn K mainGlobals "NoOrder" = some (some (.ref c_NoOrder)))
    (m_FloorError : PySem.W.nsIn K mainGlobals "FloorError" = some (some (.ref c_FloorError)))
    (m_NoRoom : PySem.W.nsIn K mainGlobals "NoRoom" = some (some (.ref c_NoRoom)))
    (m_NoText : PySem.W.nsIn K mainGlobals "NoText" = some (some (.ref c_NoText)))
    (m_NoKind : PySem.W.nsIn K mainGlobals "NoKind" = some (some (.ref c_NoKind)))
    (m_NoFloor : PySem.W.nsIn K mainGlobals "NoFloor" = some (some (.ref c_NoFloor)))
    (m_NoRow : PySem.W.nsIn K mainGlobals "NoRow" = some (some (.ref c_NoRow)))
    (m_NoName : PySem.W.nsIn K mainGlobals "NoName" = some (some (.ref c_NoName)))
    (q_NoOrder : PySem.W.excIn K c_NoOrder [.type "ValueError", .type "Exception", .type "BaseException", .type "object"] "ValueError.__new__" = true)
    (kx_NoOrder_ga : PySem.W.findIn K (.ref c_NoOrder) "__getattribute__" = some (some (.builtin "BaseException.__getattribute__")))
    (kx_NoOrder_gk : PySem.W.findIn K (.ref c_NoOrder) "__getattr__" = some none)
    (kx_NoOrder_hd : PySem.W.hasDictIn K c_NoOrder = true)
    (kx_NoOrder_ca : PySem.W.findIn K (.ref c_NoOrder) "__class__" = some (some (.builtin "object.__class__")))
    (kx_NoOrder_sp : PySem.W.specialIn K (.builtin "object.__class__") "__get__" = some (some (.builtin "getset_descriptor.__get__")))
    (kx_NoOrder_tk : PySem.W.takesIn K (.builtin "object.__class__") = some true)
    (kx_NoOrder_mro : PySem.W.mroIn K c_NoOrder (.type "object") = some true)
    (kx_NoOrder_mrb : PySem.W.mroIn K c_NoOrder (.type "BaseException") = some true)
    (x_NoOrder_FloorError : PySem.W.exmOne K (.ref c_NoOrder) (.ref c_FloorError) = some true)
    (i_NoOrder_NoRoom : PySem.W.kitOne K (.ref c_NoOrder) (.ref c_NoRoom) = some false)
    (i_NoOrder_NoText : PySem.W.kitOne K (.ref c_NoOrder) (.ref c_NoText) = some false)
    (i_NoOrder_NoKind : PySem.W.kitOne K (.ref c_NoOrder) (.ref c_NoKind) = some false)
    (i_NoOrder_NoFloor : PySem.W.kitOne K (.ref c_NoOrder) (.ref c_NoFloor) = some false)
    (i_NoOrder_NoRow : PySem.W.kitOne K (.ref c_NoOrder) (.ref c_NoRow) = some false)
    (i_NoOrder_NoName : PySem.W.kitOne K (.ref c_NoOrder) (.ref c_NoName) = some false)
    (i_NoOrder_NoOrder : PySem.W.kitOne K (.ref c_NoOrder) (.ref c_NoOrder) = some true)
    (i_NoOrder_ValueError : PySem.W.kitOne K (.ref c_NoOrder) (.type "ValueError") = some true) :
    ∃ a : Adr, Txt K mg a ∧ a.f_law = fa ∧ ∀ (s : Shared) (v : Value), BindsTo s a.d_law ⟨[v], []⟩ [("_law_script", v)] := by
  have e := hfa.symm.trans (PySem.W.mg_of X G a15)
  cases e
  have F0 := fun_mk (st := s_divided_up) l0 c0 k0
  have F1 := fun_mk (st := s_levels) l1 c1 k1
  have F2 := fun_mk (st := s_level_of) l2 c2 k2
  have F3 := fun_mk (st := s_tree_turns) l3 c3 k3
  have F4 := fun_mk (st := s_turns_shown) l4 c4 k4
  have F5 := fun_mk (st := s_shown_by_level) l5 c5 k5
  have F6 := fun_mk (st := s_why_tree) l6 c6 k6
  have F7 := fun_mk (st := s_l_cell_at) l7 c7 k7
  have F8 := fun_mk (st := s_l_mixed) l8 c8 k8
  have F9 := fun_mk (st := s_l_names) l9 c9 k9
  have F10 := fun_mk (st := s_l_behind) l10 c10 k10
  have F11 := fun_mk (st := s_l_benches) l11 c11 k11
  have F12 := fun_mk (st := s_l_asked) l12 c12 k12
  have F13 := fun_mk (st := s_l_refused) l13 c13 k13
  have F14 := fun_mk (st := s_l_bent) l14 c14 k14
  have F15 := fun_mk (st := s_law) l15 c15 k15
  have b0 := F0.binds (ps := ["total", "parts"]) fun _ _ _ _ _ _ us hl => match us, hl with | [_, _], _ => rfl
  have b1 := F1.binds (ps := ["behind"]) fun _ _ _ _ _ _ us hl => match us, hl with | [_], _ => rfl
  have b2 := F2.binds (ps := ["behind", "work"]) fun _ _ _ _ _ _ us hl => match us, hl with | [_, _], _ => rfl
  have b3 := F3.binds (ps := ["behind", "benches"]) fun _ _ _ _ _ _ us hl => match us, hl with | [_, _], _ => rfl
  have b4 := F4.binds (ps := ["behind", "benches", "level"]) fun _ _ _ _ _ _ us hl => match us, hl with | [_, _, _], _ => rfl
  have b5 := F5.binds (ps := ["heights", "benches", "level"]) fun _ _ _ _ _ _ us hl => match us, hl with | [_, _, _], _ => rfl
  have b6 := F6.binds (ps := ["behind", "benches"]) fun _ _ _ _ _ _ us hl => match us, hl with | [_, _], _ => rfl
  have b7 := F7.binds (ps := ["_law_script", "_law_k"]) fun _ _ _ _ _ _ us hl => match us, hl with | [_, _], _ => rfl
  have b8 := F8.binds (ps := ["_law_cell", "_law_k"]) fun _ _ _ _ _ _ us hl => match us, hl with | [_, _], _ => rfl
  have b9 := F9.binds (ps := ["_law_cell", "_law_many"]) fun _ _ _ _ _ _ us hl => match us, hl with | [_, _], _ => rfl
  have b10 := F10.binds (ps := ["_law_script", "_law_most"]) fun _ _ _ _ _ _ us hl => match us, hl with | [_, _], _ => rfl
  have b11 := F11.binds (ps := ["_law_script"]) fun _ _ _ _ _ _ us hl => match us, hl with | [_], _ => rfl
  have b12 := F12.binds (ps := ["_law_k", "_law_behind_here", "_law_benches_here", "_law_height"]) fun _ _ _ _ _ _ us hl => match us, hl with | [_, _, _, _], _ => rfl
  have b13 := F13.binds (ps := ["_law_k", "_law_behind_here", "_law_benches_here", "_law_height"]) fun _ _ _ _ _ _ us hl => match us, hl with | [_, _, _, _], _ => rfl
  have b14 := F14.binds (ps := ["_law_behind_here", "_law_script"]) fun _ _ _ _ _ _ us hl => match us, hl with | [_, _], _ => rfl
  have b15 := F15.binds (ps := ["_law_script"]) fun _ _ _ _ _ _ us hl => match us, hl with | [_], _ => rfl
  exact ⟨⟨f0, _, f1, _, f2, _, f3, _, f4, _, f5, _, f6, _, f7, _, f8, _, f9, _, f10, _, f11, _, f12, _, f13, _, f14, _, fa, _, c_NoOrder, c_FloorError, c_NoRoom, c_NoText, c_NoKind, c_NoFloor, c_NoRow, c_NoName⟩, ⟨F0, b0, PySem.W.mg_of X G a0, F1, b1, PySem.W.mg_of X G a1, F2, b2, PySem.W.mg_of X G a2, F3, b3, PySem.W.mg_of X G a3, F4, b4, PySem.W.mg_of X G a4, F5, b5, PySem.W.mg_of X G a5, F6, b6, PySem.W.mg_of X G a6, F7, b7, PySem.W.mg_of X G a7, F8, b8, PySem.W.mg_of X G a8, F9, b9, PySem.W.mg_of X G a9, F10, b10, PySem.W.mg_of X G a10, F11, b11, PySem.W.mg_of X G a11, F12, b12, PySem.W.mg_of X G a12, F13, b13, PySem.W.mg_of X G a13, F14, b14, PySem.W.mg_of X G a14, F15, b15, PySem.W.mg_of X G a15, PySem.W.mg_none_of X G z_ValueError, PySem.W.mg_none_of X G z_isinstance, PySem.W.mg_none_of X G z_len, PySem.W.mg_none_of X G z_list, PySem.W.mg_none_of X G z_min, PySem.W.mg_none_of X G z_range, PySem.W.mg_of X G m_NoOrder, PySem.W.mg_of X G m_FloorError, PySem.W.mg_of X G m_NoRoom, PySem.W.mg_of X G m_NoText, PySem.W.mg_of X G m_NoKind, PySem.W.mg_of X G m_NoFloor, PySem.W.mg_of X G m_NoRow, PySem.W.mg_of X G m_NoName, q_NoOrder, ⟨kx_NoOrder_ga, kx_NoOrder_gk, kx_NoOrder_hd, kx_NoOrder_ca, kx_NoOrder_sp, kx_NoOrder_tk, kx_NoOrder_mro, kx_NoOrder_mrb⟩, x_NoOrder_FloorError, i_NoOrder_NoRoom, i_NoOrder_NoText, i_NoOrder_NoKind, i_NoOrder_NoFloor, i_NoOrder_NoRow, i_NoOrder_NoName, i_NoOrder_NoOrder, i_NoOrder_ValueError⟩, rfl, fun s v => .of_eq rfl⟩
theorem walk {l : PySem.W.OpenLaw} {q : Program} {loose : List Str} {XP : (Str → Option Value) → Heap → Prop} {YP : World → Heap → Prop} {d : DefRec} {K : Params → PySem.W.Frag} (hn : l.most = some 63) (hdf : d.params.defaults = [])
    (hY : ∀ (w : World) (h : Heap), YP w h → (K w.params).In h)
    (F : ∀ (w : World) (mg : Str → Option Value) (fa : Addr) (h : Heap), (K w.params).In h → h.Ns mainGlobals mg → mg d.name = some (.ref fa) → ∃ a : Adr, Txt (K w.params) mg a ∧ a.f_law = fa ∧ ∀ (s : Shared) (v : Value), BindsTo s a.d_law ⟨[v], []⟩ [("_law_script", v)]) :
    PySem.W.WalkO q loose XP YP l.row.toRowW d [] (fun f vs => PySem.call f vs) :=
  L2.walk_ofB (n := 63) (k := 7) (x := "_law_script") (CX := fun _ => CX0) (sp := fun w => sp_law (K w.params)) hn (by decide) hdf ⟨rfl, by decide, by decide⟩ hY
    (fun w mg fa h KX G e => by
      obtain ⟨a, T, rfl, hb⟩ := F w mg fa h KX G e
      exact ⟨a.d_law, hb, fun base kb nb => (ok_law T).imp fun vs H Q E h => sp_law_of law_true h⟩)
    (fun _ _ a ns hl hbits _ hS => ⟨a, ns, rfl, hS, hl, hbits, fun _ => rfl⟩) fun _ _ _ _ _ z => z
end My
open PySem PySem.W PyProof.Rows
set_option maxRecDepth 100000 in
set_option maxHeartbeats 0 in
theorem PySem.Challenge.cw_leastfloor_k52_trees_refused_holds : PySem.Challenge.rw_leastfloor_k52_trees_refused.Holds := by
  w_on; o_law; k_head; (case hw => w_witness2)
  k_fill
  refine My.walk (l := PySem.Challenge.rw_leastfloor_k52_trees_refused) rfl rfl (fun w h Y => by first | exact PySem.W.kIn_of Y | exact PySem.W.km_in_of Y) ?F
  case F =>
    intro w mg fa h KX G hmg
    refine' My.all_mk KX G hmg ?a0 ?l0 ?c0 ?k0 ?a1 ?l1 ?c1 ?k1 ?a2 ?l2 ?c2 ?k2 ?a3 ?l3 ?c3 ?k3 ?a4 ?l4 ?c4 ?k4 ?a5 ?l5 ?c5 ?k5 ?a6 ?l6 ?c6 ?k6 ?a7 ?l7 ?c7 ?k7 ?a8 ?l8 ?c8 ?k8 ?a9 ?l9 ?c9 ?k9 ?a10 ?l10 ?c10 ?k10 ?a11 ?l11 ?c11 ?k11 ?a12 ?l12 ?c12 ?k12 ?a13 ?l13 ?c13 ?k13 ?a14 ?l14 ?c14 ?k14 ?a15 ?l15 ?c15 ?k15 ?z_ValueError ?z_isinstance ?z_len ?z_list ?z_min ?z_range ?m_NoOrder ?m_FloorError ?m_NoRoom ?m_NoText ?m_NoKind ?m_NoFloor ?m_NoRow ?m_NoName ?q_NoOrder ?kx_NoOrder_ga ?kx_NoOrder_gk ?kx_NoOrder_hd ?kx_NoOrder_ca ?kx_NoOrder_sp ?kx_NoOrder_tk ?kx_NoOrder_mro ?kx_NoOrder_mrb ?x_NoOrder_FloorError ?i_NoOrder_NoRoom ?i_NoOrder_NoText ?i_NoOrder_NoKind ?i_NoOrder_NoFloor ?i_NoOrder_NoRow ?i_NoOrder_NoName ?i_NoOrder_NoOrder ?i_NoOrder_ValueError
    (case a0 => k_is); (case l0 => k_is); (case c0 => k_is); (case k0 => k_is)
    (case a1 => k_is); (case l1 => k_is); (case c1 => k_is); (case k1 => k_is)
    (case a2 => k_is); (case l2 => k_is); (case c2 => k_is); (case k2 => k_is)
    (case a3 => k_is); (case l3 => k_is); (case c3 => k_is); (case k3 => k_is)
    (case a4 => k_is); (case l4 => k_is); (case c4 => k_is); (case k4 => k_is)
    (case a5 => k_is); (case l5 => k_is); (case c5 => k_is); (case k5 => k_is)
    (case a6 => k_is); (case l6 => k_is); (case c6 => k_is); (case k6 => k_is)
    (case a7 => k_is); (case l7 => k_is); (case c7 => k_is); (case k7 => k_is)
    (case a8 => k_is); (case l8 => k_is); (case c8 => k_is); (case k8 => k_is)
    (case a9 => k_is); (case l9 => k_is); (case c9 => k_is); (case k9 => k_is)
    (case a10 => k_is); (case l10 => k_is); (case c10 => k_is); (case k10 => k_is)
    (case a11 => k_is); (case l11 => k_is); (case c11 => k_is); (case k11 => k_is)
    (case a12 => k_is); (case l12 => k_is); (case c12 => k_is); (case k12 => k_is)
    (case a13 => k_is); (case l13 => k_is); (case c13 => k_is); (case k13 => k_is)
    (case a14 => k_is); (case l14 => k_is); (case c14 => k_is); (case k14 => k_is)
    (case a15 => k_is); (case l15 => k_is); (case c15 => k_is); (case k15 => k_is)
    (case z_ValueError => k_is); (case z_isinstance => k_is); (case z_len => k_is); (case z_list => k_is)
    (case z_min => k_is); (case z_range => k_is); (case m_NoOrder => k_is); (case m_FloorError => k_is)
    (case m_NoRoom => k_is); (case m_NoText => k_is); (case m_NoKind => k_is); (case m_NoFloor => k_is)
    (case m_NoRow => k_is); (case m_NoName => k_is); (case q_NoOrder => k_exc); (case kx_NoOrder_ga => k_is)
    (case kx_NoOrder_gk => k_is); (case kx_NoOrder_hd => k_is); (case kx_NoOrder_ca => k_is); (case kx_NoOrder_sp => k_is)
    (case kx_NoOrder_tk => k_is); (case kx_NoOrder_mro => k_is); (case kx_NoOrder_mrb => k_is); (case x_NoOrder_FloorError => kts_exm)
    (case i_NoOrder_NoRoom => kit_is); (case i_NoOrder_NoText => kit_is); (case i_NoOrder_NoKind => kit_is); (case i_NoOrder_NoFloor => kit_is)
    (case i_NoOrder_NoRow => kit_is); (case i_NoOrder_NoName => kit_is); (case i_NoOrder_NoOrder => kit_is); (case i_NoOrder_ValueError => kit_is)
#print axioms PySem.Challenge.cw_leastfloor_k52_trees_refused_holds
