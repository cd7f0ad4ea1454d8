import PyProof.Rows.All
import Wide.All
import OpenK.AllK
import Wide.FinOn
import Lean
import PyProof.EqAt
import PyProof.EqKinds
import PyProof.TupleCall
import PySem.Challenge.RW_leastfloor_k03_rows_joined
set_option Elab.async false
set_option linter.all false
set_option maxRecDepth 100000
namespace L2
open PySem PySem.Spec PyProof.Rows
abbrev Key := Sum Int Str
def keyIs : Key → Value → Bool
  | .inl k, v => Value.isInt k v
  | .inr x, v => Value.isStrOf x v
def keyH (w : World) : Key → Int
  | .inl k => hashInt k
  | .inr x => hashStr w x
theorem keyIs_shape : ∀ {k : Key} {v : Value}, keyIs k v = true → (∃ i t, k = Sum.inl i ∧ v = Value.int i t) ∨ (∃ x t, k = Sum.inr x ∧ v = Value.str x t)
  | .inl i, v, h => by
    obtain ⟨t, e⟩ := Value.isInt_shape (k := i) (v := v) h
    exact .inl ⟨i, t, rfl, e⟩
  | .inr x, v, h => by
    obtain ⟨t, e⟩ := Value.isStrOf_shape (x := x) (v := v) h
    exact .inr ⟨x, t, rfl, e⟩
theorem key_ll (a b : Int) : decide ((Sum.inl a : Key) = Sum.inl b) = (a == b) := by
  by_cases e : a = b
  · subst e; simp
  · have h : ¬ (Sum.inl a : Key) = Sum.inl b := fun q => e (Sum.inl.inj q)
    rw [decide_eq_false h]
    exact (beq_eq_false_iff_ne.mpr e).symm
theorem key_rr (a b : Str) : decide ((Sum.inr a : Key) = Sum.inr b) = decide (a = b) := by
  by_cases e : a = b
  · subst e; simp
  · have h : ¬ (Sum.inr a : Key) = Sum.inr b := fun q => e (Sum.inr.inj q)
    rw [decide_eq_false h, decide_eq_false e]
theorem key_lr (a : Int) (b : Str) : decide ((Sum.inl a : Key) = Sum.inr b) = false := decide_eq_false (fun q => nomatch q)
theorem key_rl (a : Str) (b : Int) : decide ((Sum.inr a : Key) = Sum.inl b) = false := decide_eq_false (fun q => nomatch q)
def mixKind (prog : Program) (w : World) : PySem.KeyKind prog w Key where
  is := keyIs
  hash := keyH w
  inj := fun v a b ha hb => by
    rcases keyIs_shape ha with ⟨i, t, rfl, rfl⟩ | ⟨x, t, rfl, rfl⟩
    · rcases keyIs_shape hb with ⟨j, u, rfl, e⟩ | ⟨y, u, rfl, e⟩
      · injection e with e1 _; rw [e1]
      · exact nomatch e
    · rcases keyIs_shape hb with ⟨j, u, rfl, e⟩ | ⟨y, u, rfl, e⟩
      · exact nomatch e
      · injection e with e1 _; rw [e1]
  byValue := fun k v h => by
    rcases keyIs_shape h with ⟨i, t, rfl, rfl⟩ | ⟨x, t, rfl, rfl⟩ <;> rfl
  pyHash := fun hv h => by
    rcases keyIs_shape hv with ⟨i, t, rfl, rfl⟩ | ⟨x, t, rfl, rfl⟩
    · exact wpAny_pyHash_int h
    · exact wpAny_pyHash_str h
  eqBool := fun hu hv h => by
    rcases keyIs_shape hu with ⟨i, t, rfl, rfl⟩ | ⟨x, t, rfl, rfl⟩
    · rcases keyIs_shape hv with ⟨j, u, rfl, rfl⟩ | ⟨y, u, rfl, rfl⟩
      · rw [key_ll] at h; exact wpAny_eqBool_int h
      · rw [key_lr] at h; exact SeqAt.EqAt.int_str i t y u _ _ _ _ h
    · rcases keyIs_shape hv with ⟨j, u, rfl, rfl⟩ | ⟨y, u, rfl, rfl⟩
      · rw [key_rl] at h; exact SeqAt.EqAt.str_int x t j u _ _ _ _ h
      · rw [key_rr] at h; exact wpAny_eqBool_str h
  «strs» := fun k x t v h => by
    rcases keyIs_shape h with ⟨i, u, rfl, e⟩ | ⟨y, u, rfl, e⟩
    · exact nomatch e
    · injection e with e1 _
      subst e1
      cases v <;> rfl
end L2
namespace L2
open PySem PySem.Spec PyProof.Rows
inductive V where
  | non | bl (b : Bool) | int (i : Int) | str (x : Str) | byt (b : Array UInt8) | flt (b : UInt64) | ref (a : Addr) | ty (n : String)
  deriving DecidableEq
def RelV : V → Value → Prop
  | .non, u => u = Value.none
  | .bl b, u => u = Value.bool b
  | .int i, u => ∃ t, u = Value.int i t
  | .str x, u => ∃ t, u = Value.str x t
  | .byt b, u => ∃ t, u = Value.bytes b t
  | .flt b, u => ∃ t, u = Value.float b t
  | .ref a, u => u = Value.ref a
  | .ty n, u => u = Value.type n
abbrev Vals : List V → List Value → Prop := Paired RelV
theorem Vals.length {xs : List V} {us : List Value} (r : Vals xs us) : xs.length = us.length := Paired.length r
theorem Vals.get : ∀ {xs : List V} {us : List Value} {i : Nat} {x : V}, Vals xs us → xs[i]? = some x → ∃ u, us[i]? = some u ∧ RelV x u
  | _, _, _, _, .nil, e => by simp at e
  | _, _, 0, _, .cons r _, e => by simp at e; subst e; exact ⟨_, rfl, r⟩
  | _, _, i + 1, x, .cons _ t, e => by
    obtain ⟨u, h1, h2⟩ := Vals.get (i := i) (x := x) t (by simpa using e)
    exact ⟨u, by simpa using h1, h2⟩
theorem Vals.set {x : V} {u : Value} (r : RelV x u) : ∀ {xs : List V} {us : List Value} (i : Nat), Vals xs us → Vals (xs.set i x) (us.set i u)
  | _, _, _, .nil => .nil
  | _, _, 0, .cons _ t => .cons r t
  | _, _, i + 1, .cons q t => .cons q (Vals.set r i t)
theorem Vals.append : ∀ {xs ys : List V} {us ws : List Value}, Vals xs us → Vals ys ws → Vals (xs ++ ys) (us ++ ws)
  | _, _, _, _, .nil, s => s
  | _, _, _, _, .cons r t, s => .cons r (Vals.append t s)
theorem Vals.take : ∀ {xs : List V} {us : List Value} (n : Nat), Vals xs us → Vals (xs.take n) (us.take n)
  | _, _, 0, _ => .nil
  | _, _, _ + 1, .nil => .nil
  | _, _, n + 1, .cons r t => .cons r (Vals.take n t)
theorem Vals.drop : ∀ {xs : List V} {us : List Value} (n : Nat), Vals xs us → Vals (xs.drop n) (us.drop n)
  | _, _, 0, r => r
  | _, _, _ + 1, .nil => .nil
  | _, _, n + 1, .cons _ t => Vals.drop n t
def RelO : Option V → Option Value → Prop
  | some v, some u => RelV v u
  | none, none => True
  | _, _ => False
def KV {κ : Type} : List (κ × V) → List (κ × Value) → Prop := Paired fun (p : κ × V) (q : κ × Value) => p.1 = q.1 ∧ RelV p.2 q.2
def kV : Key → V
  | .inl i => .int i
  | .inr x => .str x
inductive HO where
  /-- a list -/
  | lst (xs : List V)
  /-- a tuple (never changes) -/
  | tup (xs : List V)
  /-- a dict whose keys are ints and texts; one whose keys are tuples of ints and texts (the empty one is both) -/
  | dK (kvs : List (Key × V)) | dT (kvs : List (List Key × V))
  /-- a set of ints: its members, its size -/
  | set (S : Int → Bool) (n : Nat)
  /-- an instance of the class at C, its dict at dx, its attributes -/
  | ins (C dx : Addr) (fs : List (Str × V))
  /-- the dict of the instance at x -/
  | own (x : Addr)
  /-- the dict of an exception -/
  | xd (fs : List (Str × V))
  /-- a bound method, f of x -/
  | met (f x : Addr)
  /-- a range object lo, lo + 1, .. below hi -/
  | rng (lo hi : Int)
  /-- a thing that is known to the object (the script; a dict while a loop walks it): read, never written while it is so -/
  | frz (o : Obj) (u : HO)
  /-- a code object's table -/
  | tbl (ps : Array Value)
  /-- any other thing, by what is true of its one object (a def of one's own: SetO a S n := HO.ext fun h => ..) -/
  | ext (φ : Heap → Prop)
abbrev Hp := Addr → Option HO
def upd (H : Hp) (a : Addr) (o : HO) : Hp := fun b => if b = a then some o else H b
theorem upd_same {H : Hp} {a : Addr} {o : HO} : upd H a o a = some o := by unfold upd; rw [if_pos rfl]
theorem upd_ne {H : Hp} {a b : Addr} {o : HO} (h : b ≠ a) : upd H a o b = H b := by unfold upd; rw [if_neg h]
theorem ne_of_none {H : Hp} {a b : Addr} {o : HO} (h : H a = some o) (h' : H b = none) : a ≠ b := by
  intro e; subst e; rw [h] at h'; cases h'
section
variable (P : Program) (w : World)
def ObjOk (H : Hp) (h : Heap) (a : Addr) : HO → Prop
  | .lst xs => xs.length ≤ sizeLine ∧ ∃ (its : List Value) (n : Nat), Vals xs its ∧ h.get? a = some { cls := .type "list", data := .seq its.toArray n }
  | .tup xs => xs.length ≤ sizeLine ∧ ∃ its : List Value, Vals xs its ∧ IsTup h a its.toArray
  | .dK kvs => kvs.length ≤ sizeLine ∧ (a == sysModules) = false ∧ ∃ vs, KV kvs vs ∧ h.DictOf (mixKind P w) a vs
  | .dT kvs => kvs.length ≤ sizeLine ∧ (a == sysModules) = false ∧ ∃ xs : List (List Key × Addr × Value),
      Paired (fun (p : List Key × V) (q : List Key × Addr × Value) => p.1 = q.1 ∧ H q.2.1 = some (.tup (p.1.map kV)) ∧ RelV p.2 q.2.2) kvs xs ∧
      ∃ o es ep, h.get? a = some o ∧ o.ExactDict ∧ o.data = .dict es ep ∧ es.toList = xs.map (entryOfKey (tupleKind (mixKind P w))) ∧ (xs.map (·.1)).Nodup
  | .set S n => h.SetOf (intKind P w) a S n
  | .ins C dx fs => H dx = some (.own a) ∧ fs.length ≤ 1000 ∧ dx ≠ a ∧ h.get? a = some (PySem.W.instObj C dx) ∧
      ∃ mA, h.Ns1 dx mA ∧ (∀ f, RelO (fs.lookup f) (mA f)) ∧ PySem.Within mA (fs.map (·.1))
  | .own _ => ∃ o, h.get? a = some o
  | .xd fs => ∃ mA, h.Ns1 a mA ∧ ∀ f, RelO (fs.lookup f) (mA f)
  | .rng lo hi => ∃ t u v, h.get? a = some { cls := .type "range", data := .fields #[.int lo t, .int hi u, .int 1 v] }
  | .frz o u => h.get? a = some o ∧ ObjOk H h a u
  | .tbl ps => ∃ (q : Str) (t : Tok) (qs : Array Value), ps[0]? = some (.str q t) ∧ h.get? a = some { cls := .none, data := .fields qs } ∧ TriplesOk qs.toList ∧
      ∀ pos v, codeAmong pos qs.toList = some v → ∃ c o u vs t, v = .ref c ∧ H c = some (.frz o u) ∧ o.data = .fields vs ∧ vs[1]? = some (.str q t)
  | .met f x => h.get? a = some (PySem.W.methodObj (.ref f) (.ref x))
  | .ext φ => φ h ∧ (∃ o, h.get? a = some o) ∧ ∀ h1 h2 : Heap, φ h1 → (∀ o, h1.get? a = some o → h2.get? a = some o) → φ h2
def HOk (H : Hp) (h : Heap) : Prop := ∀ a o, H a = some o → ObjOk P w H h a o
end
section
variable {P : Program} {w : World} {H H' : Hp} {h h' : Heap} {a : Addr} {o : HO}
theorem ObjOk.lt (x : ObjOk P w H h a o) : a < h.objs.size := by
  cases o with
  | lst xs => obtain ⟨_, _, _, _, e⟩ := x; exact Heap.lt_size e
  | tup xs => obtain ⟨_, _, _, p⟩ := x; exact p.lt
  | dK kvs => obtain ⟨_, _, _, _, o, _, _, e, _⟩ := x; exact Heap.lt_size e
  | dT kvs => obtain ⟨_, _, _, _, o, _, _, e, _⟩ := x; exact Heap.lt_size e
  | set S n => obtain ⟨o, _, _, _, e, _⟩ := x; exact Heap.lt_size e
  | ins C dx fs => obtain ⟨_, _, _, e, _⟩ := x; exact Heap.lt_size e
  | own y => obtain ⟨_, e⟩ := x; exact Heap.lt_size e
  | xd fs => obtain ⟨_, ⟨_, _, _, e, _⟩, _⟩ := x; exact Heap.lt_size e
  | rng lo hi => obtain ⟨_, _, _, e⟩ := x; exact Heap.lt_size e
  | frz ob u => obtain ⟨e, _⟩ := x; exact Heap.lt_size e
  | tbl ps => obtain ⟨_, _, _, _, e, _⟩ := x; exact Heap.lt_size e
  | met f y => exact Heap.lt_size (show h.get? a = some _ from x)
  | ext φ => obtain ⟨_, ⟨_, e⟩, _⟩ := x; exact Heap.lt_size e
theorem Paired.mapP {α β : Type} {F G : α → β → Prop} : ∀ {l₁ : List α} {l₂ : List β}, Paired F l₁ l₂ → (∀ a b, F a b → G a b) → Paired G l₁ l₂
  | _, _, .nil, _ => .nil
  | _, _, .cons r t, f => .cons (f _ _ r) (Paired.mapP t f)
theorem ObjOk.stay (x : ObjOk P w H h a o) (k : ∀ b u, (b = a ∨ H b = some (.own a)) → h.get? b = some u → h'.get? b = some u)
    (ho : ∀ b, H b = some (.own a) → H' b = some (.own a)) (ht : ∀ b xs, H b = some (.tup xs) → H' b = some (.tup xs)) (hz : ∀ b o u, H b = some (.frz o u) → H' b = some (.frz o u) := by first | exact fun _ _ _ q => q | (intro b o u q; rw [upd_ne (ne_of_none q (by assumption))]; exact q)) : ObjOk P w H' h' a o := by
  induction o with
  | lst xs => obtain ⟨z, its, n, r, e⟩ := x; exact ⟨z, its, n, r, k _ _ (.inl rfl) e⟩
  | tup xs => obtain ⟨z, its, r, ob, e, c⟩ := x; exact ⟨z, its, r, ob, k _ _ (.inl rfl) e, c⟩
  | dK kvs => obtain ⟨z, y, vs, r, ob, es, ep, e, c⟩ := x; exact ⟨z, y, vs, r, ob, es, ep, k _ _ (.inl rfl) e, c⟩
  | dT kvs =>
    obtain ⟨z, y, xs, r, ob, es, ep, e, c⟩ := x
    exact ⟨z, y, xs, Paired.mapP r fun p q z => ⟨z.1, ht _ _ z.2.1, z.2.2⟩, ob, es, ep, k _ _ (.inl rfl) e, c⟩
  | set S n => obtain ⟨ob, es, ep, t, e, c⟩ := x; exact ⟨ob, es, ep, t, k _ _ (.inl rfl) e, c⟩
  | ins C dx fs =>
    obtain ⟨d, z, ne, e, mA, ⟨od, es, ep, e2, c⟩, r⟩ := x
    exact ⟨ho _ d, z, ne, k _ _ (.inl rfl) e, mA, ⟨od, es, ep, k _ _ (.inr d) e2, c⟩, r⟩
  | own y => obtain ⟨ob, e⟩ := x; exact ⟨ob, k _ _ (.inl rfl) e⟩
  | xd fs => obtain ⟨mA, ⟨od, es, ep, e, c⟩, r⟩ := x; exact ⟨mA, ⟨od, es, ep, k _ _ (.inl rfl) e, c⟩, r⟩
  | rng lo hi => obtain ⟨t, u, v, e⟩ := x; exact ⟨t, u, v, k _ _ (.inl rfl) e⟩
  | frz ob u ih => obtain ⟨e, q⟩ := x; exact ⟨k _ _ (.inl rfl) e, ih q⟩
  | tbl ps =>
    obtain ⟨q, t, qs, h0, h1, h2, h3⟩ := x
    refine ⟨q, t, qs, h0, k _ _ (.inl rfl) h1, h2, fun pos v e => ?_⟩
    obtain ⟨c, o, u, vs, t2, e1, e2, e3⟩ := h3 pos v e
    exact ⟨c, o, u, vs, t2, e1, hz _ _ _ e2, e3⟩
  | met f y =>
    have e : h.get? a = some (PySem.W.methodObj (.ref f) (.ref y)) := x
    show h'.get? a = some (PySem.W.methodObj (.ref f) (.ref y))
    exact k a _ (.inl rfl) e
  | ext φ => obtain ⟨p, ⟨o, e⟩, st⟩ := x; exact ⟨st _ _ p fun o q => k _ _ (.inl rfl) q, ⟨o, k _ _ (.inl rfl) e⟩, st⟩
theorem HOk.lt (x : HOk P w H h) (e : H a = some o) : a < h.objs.size := (x a o e).lt
theorem HOk.fresh (x : HOk P w H h) (e : h.objs.size ≤ a) : H a = none := by
  cases q : H a with
  | none => rfl
  | some u => exact absurd (Nat.lt_of_lt_of_le (x.lt q) e) (Nat.lt_irrefl _)
theorem HOk.kept (x : HOk P w H h) (k : ∀ b u, h.get? b = some u → h'.get? b = some u) : HOk P w H h' := fun a o e =>
  (x a o e).stay (fun b u _ q => k b u q) (fun _ q => q) fun _ _ q => q
theorem HOk.laid (x : HOk P w H h) (k : ∀ b u, h.get? b = some u → h'.get? b = some u) (hp : h.objs.size ≤ a) (new : ObjOk P w (upd H a o) h' a o) : HOk P w (upd H a o) h' := fun b u e => by
  have hn := x.fresh hp
  by_cases hb : b = a
  · subst hb; rw [upd_same] at e; cases e; exact new
  · rw [upd_ne hb] at e
    exact (x b u e).stay (fun c v _ q => k c v q) (fun c q => by rw [upd_ne (ne_of_none q hn)]; exact q) fun c xs q => by rw [upd_ne (ne_of_none q hn)]; exact q
end
def Rd (H : Hp) (a : Addr) (u : HO) : Prop := H a = some u ∨ ∃ o, H a = some (.frz o u)
theorem Rd.ok {P : Program} {w : World} {H : Hp} {h : Heap} {a : Addr} {u : HO} (r : Rd H a u) (x : HOk P w H h) : ObjOk P w H h a u := by
  rcases r with r | ⟨o, r⟩
  · exact x a u r
  · obtain ⟨_, q⟩ := x a _ r
    exact q
def Mut : Option HO → Prop
  | some (.lst _) => True
  | some (.dK _) => True
  | some (.dT _) => True
  | some (.set _ _) => True
  | some (.ins _ _ _) => True
  | some (.ext _) => True
  | _ => False
section
variable {P : Program} {w : World} {H : Hp} {h h' : Heap} {x e : Addr} {o' : HO}
theorem HOk.write (ok : HOk P w H h) (mu : Mut (H x)) (he : e = x ∨ H e = some (.own x)) (k : ∀ b u, b ≠ e → h.get? b = some u → h'.get? b = some u) (heo : ∃ u, h'.get? e = some u)
    (new : ObjOk P w (upd H x o') h' x o') : HOk P w (upd H x o') h' := fun b u q => by
  have nown : ∀ c y, H c = some (.own y) → c ≠ x := fun c y r z => by subst z; rw [r] at mu; exact mu
  have ntup : ∀ c xs, H c = some (.tup xs) → c ≠ x := fun c xs r z => by subst z; rw [r] at mu; exact mu
  have nfrz : ∀ c o u, H c = some (.frz o u) → c ≠ x := fun c o u r z => by subst z; rw [r] at mu; exact mu
  by_cases hb : b = x
  · subst hb; rw [upd_same] at q; cases q; exact new
  · rw [upd_ne hb] at q
    by_cases hbe : b = e
    · have q' : H b = some (.own x) := by
        rcases he with z | z
        · exact absurd (hbe.trans z) hb
        · rw [hbe]; exact z
      rw [q] at q'; cases q'
      obtain ⟨v, hv⟩ := heo
      exact ⟨v, by rw [hbe]; exact hv⟩
    · refine (ok b u q).stay (fun c v hc r => k c v ?_ r) (fun c r => by rw [upd_ne (nown c b r)]; exact r) (fun c xs r => by rw [upd_ne (ntup c xs r)]; exact r) fun c o u r => by rw [upd_ne (nfrz c o u r)]; exact r
      rcases hc with rfl | hc
      · exact hbe
      · rintro rfl
        rcases he with z | z
        · exact nown c b hc z
        · rw [hc] at z; cases z; exact hb rfl
end
structure Un (fs ex : List Addr) (H H' : Hp) (h h' : Heap) : Prop where
  keep : ∀ b o, h.get? b = some o → H b = none → b ∉ fs → b ∉ ex → h'.get? b = some o
  slot : ∀ b o, h.get? b = some o → H b = none → b ∈ fs → b ∉ ex → ∃ sl, h'.get? b = some { o with slots := sl }
  free : ∀ b o, h.get? b = some o → H b = none → b ∉ ex → H' b = none
  there : ∀ b o, h.get? b = some o → b ∉ ex → ∃ o', h'.get? b = some o'
  tups : ∀ b xs, H b = some (.tup xs) → H' b = some (.tup xs)
  frzs : ∀ b o u, H b = some (.frz o u) → H' b = some (.frz o u)
  tbls : ∀ b ps, H b = some (.tbl ps) → ∃ more, H' b = some (.tbl (ps ++ more))
section
variable {fs fs' ex ex' : List Addr} {H H1 H2 : Hp} {h h1 h2 h' : Heap} {a x e : Addr} {o : HO}
theorem Un.any (u : Un fs ex H H1 h h1) {b : Addr} {ob : Obj} (q : h.get? b = some ob) (n : H b = none) (hx : b ∉ ex) : ∃ sl, h1.get? b = some { ob with slots := sl } := by
  by_cases hb : b ∈ fs
  · exact u.slot b ob q n hb hx
  · exact ⟨ob.slots, u.keep b ob q n hb hx⟩
theorem Un.kept (k : ∀ b u, h.get? b = some u → h'.get? b = some u) : Un fs ex H H h h' :=
  ⟨fun b ob q _ _ _ => k b ob q, fun b ob q _ _ _ => ⟨ob.slots, k b ob q⟩, fun _ _ _ n _ => n, fun b ob q _ => ⟨ob, k b ob q⟩, fun _ _ q => q, fun _ _ _ q => q, fun _ ps q => ⟨#[], by rw [q]; simp⟩⟩
theorem Un.refl : Un fs ex H H h h := Un.kept fun _ _ q => q
theorem Un.laid (k : ∀ b u, h.get? b = some u → h'.get? b = some u) (hp : h.objs.size ≤ a) (hn : H a = none) : Un fs ex H (upd H a o) h h' where
  keep := fun b u q _ _ _ => k b u q
  slot := fun b u q _ _ _ => ⟨u.slots, k b u q⟩
  free := fun b u q n _ => by rw [upd_ne (Nat.ne_of_lt (Nat.lt_of_lt_of_le (Heap.lt_size q) hp))]; exact n
  there := fun b u q _ => ⟨u, k b u q⟩
  tups := fun b xs q => by rw [upd_ne (ne_of_none q hn)]; exact q
  frzs := fun b u xs q => by rw [upd_ne (ne_of_none q hn)]; exact q
  tbls := fun b ps q => ⟨#[], by rw [upd_ne (ne_of_none q hn), q]; simp⟩
theorem Un.write (mu : Mut (H x)) (he : e = x ∨ H e = some (.own x)) (k : ∀ b u, b ≠ e → h.get? b = some u → h'.get? b = some u) (heo : ∃ u, h'.get? e = some u) : Un fs ex H (upd H x o) h h' := by
  have hx : ∀ b, H b = none → b ≠ x := fun b n z => by subst z; rw [n] at mu; exact mu
  have hb : ∀ b, H b = none → b ≠ e := fun b n z => by
    subst z
    rcases he with r | r
    · exact hx b n r
    · rw [n] at r; cases r
  have hm : ∀ b u, H b = some u → ¬ Mut (some u) → b ≠ x := fun b u q nm z => by subst z; rw [q] at mu; exact nm mu
  refine ⟨fun b u q n _ _ => k b u (hb b n) q, fun b u q n _ _ => ⟨u.slots, k b u (hb b n) q⟩, fun b u q n _ => by rw [upd_ne (hx b n)]; exact n, fun b u q _ => ?_,
    fun b xs q => by rw [upd_ne (hm b _ q fun z => z)]; exact q, fun b u xs q => by rw [upd_ne (hm b _ q fun z => z)]; exact q, fun b ps q => ⟨#[], by rw [upd_ne (hm b _ q fun z => z), q]; simp⟩⟩
  by_cases hbe : b = e
  · subst hbe; exact heo
  · exact ⟨u, k b u hbe q⟩
end
def trk (h : Heap) (H : Hp) : List Addr := (List.range h.objs.size).filter fun a => (H a).isSome
def hidT (h : Heap) (H : Hp) : Heap := PySem.W.hideAll h (trk h H)
theorem hidT_size (h : Heap) (H : Hp) : (hidT h H).objs.size = h.objs.size := PySem.W.hideAll_size _ _
theorem hidT_get {h : Heap} {H : Hp} {b : Addr} {o : Obj} (e : h.get? b = some o) (n : H b = none) : (hidT h H).get? b = some o :=
  PySem.W.hideAll_get _ e fun hm => by
    have q : (H b).isSome = true := (List.mem_filter.mp hm).2
    rw [n] at q; simp at q
theorem of_hidT {h : Heap} {H : Hp} {b : Addr} {o : Obj} (e : (hidT h H).get? b = some o) : h.get? b = some o ∧ H b = none := by
  have e' : h.get? b = some o := PySem.W.of_hideAll (trk h H) e
  refine ⟨e', ?_⟩
  cases q : H b with
  | none => rfl
  | some x =>
    have hm : b ∈ trk h H := List.mem_filter.mpr ⟨List.mem_range.mpr (Heap.lt_size e'), by simp [q]⟩
    have z : (hidT h H).get? b = none := PySem.W.hideAll_none (trk h H) hm
    rw [z] at e; cases e
def allNews (g h : Heap) (L : Addr) : List (Addr × Obj) := (List.range h.objs.size).filterMap fun a => if a = L ∨ (g.get? a).isSome = true then none else (h.get? a).map fun o => (a, o)
theorem mem_allNews {g h : Heap} {L a : Addr} {o : Obj} (h1 : a ≠ L) (h2 : g.get? a = none) (h3 : h.get? a = some o) : (a, o) ∈ allNews g h L :=
  List.mem_filterMap.mpr ⟨a, List.mem_range.mpr (Heap.lt_size h3), by simp [h1, h2, h3]⟩
theorem of_mem_allNews {g h : Heap} {L : Addr} {p : Addr × Obj} (hp : p ∈ allNews g h L) : p.1 ≠ L ∧ g.get? p.1 = none ∧ h.get? p.1 = some p.2 := by
  obtain ⟨b, _, e⟩ := List.mem_filterMap.mp hp
  split at e
  · cases e
  · rename_i hn
    cases q : h.get? b with
    | none => rw [q] at e; simp at e
    | some u =>
      rw [q] at e
      simp only [Option.map_some, Option.some.injEq] at e
      subst e
      refine ⟨fun z => hn (.inl z), ?_, q⟩
      show g.get? b = none
      cases r : g.get? b with
      | none => rfl
      | some v => exact (hn (.inr (by simp [r]))).elim
def rest (g h : Heap) (L d : Addr) : List (Addr × Obj) := (allNews g h L).filter fun p => decide (p.1 ≠ d)
theorem rest_ne {g h : Heap} {L d : Addr} : ∀ p ∈ rest g h L d, p.1 ≠ d := fun p hp => of_decide_eq_true (List.mem_filter.mp hp).2
theorem news_all {g h : Heap} {L : Addr} : News g L h (allNews g h L) := fun p hp => let ⟨a, b, c⟩ := of_mem_allNews hp; ⟨c, a, b⟩
theorem news_at {g h : Heap} {L d : Addr} {o : Obj} (h1 : d ≠ L) (h2 : g.get? d = none) (h3 : h.get? d = some o) : News g L h ((d, o) :: rest g h L d) := fun p hp => by
  rcases List.mem_cons.mp hp with rfl | hp
  · exact ⟨h3, h1, h2⟩
  · exact news_all p (List.mem_filter.mp hp).1
end L2
namespace L2
open PySem PySem.Spec PyProof.Rows
structure Mod (K : PySem.W.Frag) (mg : Str → Option Value) (base : Heap) : Prop where
  kin : K.In base
  glob : base.Ns mainGlobals mg
  blt : ∃ mb, base.Ns builtinsNs mb ∧ ∀ x : Str, x ≠ "__name__" → mb x = bootBuiltins x
  nolimit : base.NoLimit
structure Cx where
  prog : Program
  w : World
  K : PySem.W.Frag
  mg : Str → Option Value
  base : Heap
  A : Around
  N : List Str
  s₀ : Shared
  H₀ : Hp
  env : Env
  outer : List Env
  stack : List Env
  ex : List Addr
  fn : Str → Bool
  calm : Bool
  pn : List (Addr × Obj)
  xe : Value → Shared → Prop
def frs (l : List Env) : List Addr := l.filterMap (·.frame)
abbrev Cx.fs (X : Cx) : List Addr := frs X.outer
def Vis (sc : Scope) (x : Str) : Prop := sc.names.lookup x = some .local ∨ sc.names.lookup x = some .cell ∨ sc.names.lookup x = some .free
def Loc (sc : Scope) (x : Str) : Prop := sc.names.lookup x = some .local ∨ sc.names.lookup x = some .cell
def Look (env : Env) (h : Heap) (m : Str → Option Value) (x : Str) (u : Value) : Prop :=
  (env.kindOf x = some .local ∧ m x = some u) ∨ ((env.kindOf x = some .cell ∨ env.kindOf x = some .free) ∧ ∃ c, env.cells.lookup x = some c ∧ h.IsCell c (some u))
structure Cx.Ok (X : Cx) : Prop where
  mod : Mod X.K X.mg X.base
  kind : X.env.scope.kind = .function
  glob : X.env.globals = mainGlobals
  blt : X.env.builtins = builtinsNs
  above : X.s₀.heap.objs.size ≤ X.env.locals
  inj : ∀ x y c, X.env.cells.lookup x = some c → X.env.cells.lookup y = some c → x = y
  has : ∀ x, (X.env.kindOf x = some .cell ∨ X.env.kindOf x = some .free) → ∃ c, X.env.cells.lookup x = some c
  cab : ∀ x c, X.fn x = true → X.env.cells.lookup x = some c → X.s₀.heap.objs.size ≤ c
  hd : X.calm = true → X.A.handled = none
  frames : X.A.frames = some X.stack
  stk : X.stack = X.outer ∨ (X.stack = X.env :: X.outer ∧ X.env.frame = some X.env.locals)
  exf : ∀ b ∈ X.ex, b ≠ X.env.locals ∧ ∀ x c, X.env.cells.lookup x = some c → c ≠ b
  bs : ∀ b o, X.base.get? b = some o → X.s₀.heap.get? b = some o ∧ X.H₀ b = none
  bsz : X.base.objs.size ≤ X.s₀.heap.objs.size
  noex : ∀ b o, X.base.get? b = some o → b ∉ X.ex
  exfs : ∀ b ∈ X.ex, b ∉ X.fs
  funs : X.s₀.heap.FunFrames X.base X.outer
  frf : ∀ b ∈ X.fs, X.H₀ b = none
structure Inv (X : Cx) (pins : List (Addr × Obj)) (σ : List (Option V)) (H : Hp) (s : Shared) : Prop where
  ok : X.Ok
  os : s.os = X.s₀.os
  bare : AllBare s.gens
  base : Un X.fs X.ex X.H₀ H X.s₀.heap s.heap
  loc : ∃ m, s.heap.Ns X.env.locals m ∧ ∀ (i : Nat) (x : Str) (v : V), X.N[i]? = some x → σ[i]? = some (some v) → Vis X.env.scope x → ∃ u, RelV v u ∧ Look X.env s.heap m x u
  cell : ∀ x c, X.env.cells.lookup x = some c → ∃ v, s.heap.IsCell c v
  free : H X.env.locals = none
  freeC : ∀ x c, X.env.cells.lookup x = some c → H c = none
  pin : ∀ p ∈ X.pn ++ pins, s.heap.get? p.1 = some p.2 ∧ H p.1 = none ∧ p.1 ≠ X.env.locals ∧ p.1 ∉ X.fs ∧ ∀ v, p.2.data ≠ .cell v
  hok : HOk X.prog X.w H s.heap
  len : σ.length = X.N.length
section
variable {X : Cx} {pins : List (Addr × Obj)} {σ : List (Option V)} {H H' : Hp} {s : Shared} {h' : Heap}
theorem Cx.Ok.nofr (ok : X.Ok) {b : Addr} {o : Obj} (e : X.base.get? b = some o) : b ∉ X.fs := fun hb => by
  have := (ok.funs.mem hb).1
  rw [e] at this; cases this
theorem Inv.bs (I : Inv X pins σ H s) : ∀ b o, X.base.get? b = some o → s.heap.get? b = some o ∧ H b = none := fun b o e =>
  ⟨I.base.keep b o (I.ok.bs b o e).1 (I.ok.bs b o e).2 (I.ok.nofr e) (I.ok.noex b o e), I.base.free b o (I.ok.bs b o e).1 (I.ok.bs b o e).2 (I.ok.noex b o e)⟩
theorem Inv.bk (I : Inv X pins σ H s) : ∀ b o, X.base.get? b = some o → s.heap.get? b = some o := fun b o e => (I.bs b o e).1
theorem Inv.mod (I : Inv X pins σ H s) : Mod X.K X.mg X.base := I.ok.mod
theorem Inv.kIn (I : Inv X pins σ H s) : X.K.In s.heap := I.ok.mod.kin.keeps I.bk
theorem Inv.nolimit (I : Inv X pins σ H s) : s.heap.NoLimit := I.ok.mod.nolimit.keeps I.bk
theorem Inv.fr (I : Inv X pins σ H s) : ∃ m, Fr X.base X.env.locals s.heap m :=
  let ⟨m, hn, _⟩ := I.loc
  ⟨m, hn, I.bk, Nat.le_trans I.ok.bsz I.ok.above⟩
theorem Inv.lt (I : Inv X pins σ H s) : X.env.locals < s.heap.objs.size := let ⟨_, hn, _⟩ := I.loc; hn.lt
theorem Inv.sz (I : Inv X pins σ H s) : X.s₀.heap.objs.size ≤ s.heap.objs.size := Nat.le_trans I.ok.above (Nat.le_of_lt I.lt)
theorem Inv.nofs (I : Inv X pins σ H s) {a : Addr} (h : s.heap.objs.size ≤ a) : a ∉ X.fs := fun hb => by
  obtain ⟨_, o, ho, _⟩ := I.ok.funs.mem hb
  exact absurd (Nat.lt_of_lt_of_le (Heap.lt_size ho) (Nat.le_trans I.sz h)) (Nat.lt_irrefl _)
theorem Inv.cne (I : Inv X pins σ H s) : ∀ x c, X.env.cells.lookup x = some c → c ≠ X.env.locals := fun x c e z => by
  obtain ⟨v, o, ho, hd⟩ := I.cell x c e
  obtain ⟨m, ⟨o', es, ep, ho', hd', _⟩, _⟩ := I.loc
  rw [z, ho'] at ho; cases ho; rw [hd'] at hd; cases hd
theorem Inv.funs (I : Inv X pins σ H s) : s.heap.FunFrames X.base X.outer := by
  have all : ∀ (l : List Env), (∀ b ∈ frs l, b ∈ X.fs) → X.s₀.heap.FunFrames X.base l → s.heap.FunFrames X.base l := by
    intro l
    induction l with
    | nil => intro _ _; trivial
    | cons env r ih =>
      intro hs hl
      obtain ⟨hk, ⟨L, o, hf, hn, ho, hd⟩, hr⟩ := hl
      have hL : L ∈ X.fs := hs L (by unfold frs; rw [List.filterMap_cons, hf]; exact List.mem_cons_self)
      obtain ⟨sl, e⟩ := I.base.slot L o ho (I.ok.frf L hL) hL fun z => I.ok.exfs L z hL
      exact ⟨hk, ⟨L, _, hf, hn, e, hd⟩, ih (fun b hb => hs b (by unfold frs; rw [List.filterMap_cons, hf]; exact List.mem_cons_of_mem _ hb)) hr⟩
  exact all X.outer (fun _ hb => hb) I.ok.funs
theorem Inv.stack (I : Inv X pins σ H s) : s.heap.FunFrames X.base X.stack := by
  rcases I.ok.stk with e | ⟨e, hf⟩
  · rw [e]; exact I.funs
  · rw [e]
    obtain ⟨m, hn, _⟩ := I.loc
    refine .cons (by rw [I.ok.kind]; decide) hf hn ?_ I.funs
    exact Heap.get?_none_of_le (Nat.le_trans I.ok.bsz I.ok.above)
theorem Inv.stkSub (I : Inv X pins σ H s) : ∀ b ∈ frs X.stack, b ∈ X.env.locals :: X.fs := fun b hb => by
  rcases I.ok.stk with e | ⟨e, hf⟩
  · rw [e] at hb; exact List.mem_cons_of_mem _ hb
  · rw [e] at hb
    unfold frs at hb
    rw [List.filterMap_cons, hf] at hb
    exact hb
theorem Inv.stkFree (I : Inv X pins σ H s) : ∀ b ∈ frs X.stack, H b = none := fun b hb => by
  rcases List.mem_cons.mp (I.stkSub b hb) with e | hb
  · rw [e]; exact I.free
  · obtain ⟨_, o, ho, _⟩ := I.ok.funs.mem hb
    exact I.base.free b o ho (I.ok.frf b hb) fun z => I.ok.exfs b z hb
theorem Inv.step {g' : Array GenState} {t' : Nat} {d' : Drawn} {ch : List Addr} (I : Inv X pins σ H s)
    (hch : ∀ b ∈ ch, (b ∈ X.ex ∨ X.s₀.heap.objs.size ≤ b) ∧ b ≠ X.env.locals ∧ (∀ x c, X.env.cells.lookup x = some c → c ≠ b) ∧ ∀ p ∈ X.pn ++ pins, p.1 ≠ b)
    (keep : ∀ b o, b ≠ X.env.locals → b ∉ X.fs → b ∉ ch → s.heap.get? b = some o → H b = none → h'.get? b = some o)
    (slot : ∀ b o, b ≠ X.env.locals → b ∈ X.fs → b ∉ ch → s.heap.get? b = some o → H b = none → ∃ sl, h'.get? b = some { o with slots := sl }) (free : ∀ b o, b ∉ ch → s.heap.get? b = some o → H b = none → H' b = none)
    (there : ∀ b o, b ∉ ch → s.heap.get? b = some o → ∃ o', h'.get? b = some o')
    (tups : ∀ b xs, H b = some (.tup xs) → H' b = some (.tup xs)) (frzs : ∀ b o u, H b = some (.frz o u) → H' b = some (.frz o u)) (tbls : ∀ b ps, H b = some (.tbl ps) → ∃ more, H' b = some (.tbl (ps ++ more)))
    (ns : ∀ m, s.heap.Ns X.env.locals m → h'.Ns X.env.locals m) (hok : HOk X.prog X.w H' h') (hg : AllBare g') :
    Inv X pins σ H' { s with heap := h', gens := g', drawn := d', toks := t' } := by
  have neL : ∀ b o, X.s₀.heap.get? b = some o → b ≠ X.env.locals := fun b o e => Nat.ne_of_lt (Nat.lt_of_lt_of_le (Heap.lt_size e) I.ok.above)
  have neC : ∀ b o, X.s₀.heap.get? b = some o → b ∉ X.ex → b ∉ ch := fun b o e hx hb => by
    rcases (hch b hb).1 with z | z
    · exact hx z
    · exact absurd (Nat.lt_of_lt_of_le (Heap.lt_size e) z) (Nat.lt_irrefl _)
  have cellK : ∀ x c, X.env.cells.lookup x = some c → ∀ v, s.heap.IsCell c v → h'.IsCell c v := fun x c e v ⟨o, ho, hd⟩ => by
    have nch : c ∉ ch := fun z => (hch c z).2.2.1 x c e rfl
    by_cases hc : c ∈ X.fs
    · obtain ⟨sl, q⟩ := slot c o (I.cne x c e) hc nch ho (I.freeC x c e)
      exact ⟨_, q, hd⟩
    · exact ⟨o, keep c o (I.cne x c e) hc nch ho (I.freeC x c e), hd⟩
  refine ⟨I.ok, I.os, hg, ⟨fun b o e n hb hx => ?_, fun b o e n hb hx => ?_, fun b o e n hx => ?_, fun b o e hx => ?_, fun b xs e => tups b xs (I.base.tups b xs e), fun b o xs e => frzs b o xs (I.base.frzs b o xs e), fun b ps e => ?_⟩, ?_, fun x c e => ?_, ?_, fun x c e => ?_, fun p hp => ?_, hok, I.len⟩
  · exact keep b o (neL b o e) hb (neC b o e hx) (I.base.keep b o e n hb hx) (I.base.free b o e n hx)
  · obtain ⟨sl, e1⟩ := I.base.slot b o e n hb hx
    obtain ⟨sl', e2⟩ := slot b _ (neL b o e) hb (neC b o e hx) e1 (I.base.free b o e n hx)
    exact ⟨sl', e2⟩
  · obtain ⟨o', e1⟩ := I.base.there b o e hx
    exact free b o' (neC b o e hx) e1 (I.base.free b o e n hx)
  · obtain ⟨o', e1⟩ := I.base.there b o e hx
    exact there b o' (neC b o e hx) e1
  · obtain ⟨m1, e1⟩ := I.base.tbls b ps e
    obtain ⟨m2, e2⟩ := tbls b _ e1
    exact ⟨m1 ++ m2, by rw [e2, Array.append_assoc]⟩
  · obtain ⟨m, hn, hl⟩ := I.loc
    refine ⟨m, ns m hn, fun i x v e1 e2 e3 => ?_⟩
    obtain ⟨u, r, l⟩ := hl i x v e1 e2 e3
    refine ⟨u, r, ?_⟩
    rcases l with l | ⟨k, c, e, z⟩
    · exact .inl l
    · exact .inr ⟨k, c, e, cellK x c e _ z⟩
  · obtain ⟨v, z⟩ := I.cell x c e
    exact ⟨v, cellK x c e v z⟩
  · obtain ⟨m, ⟨o, _, _, ho, _⟩, _⟩ := I.loc
    exact free _ o (fun z => (hch _ z).2.1 rfl) ho I.free
  · obtain ⟨v, o, ho, hd⟩ := I.cell x c e
    exact free c o (fun z => (hch c z).2.2.1 x c e rfl) ho (I.freeC x c e)
  · obtain ⟨e, n, ne, nf, d⟩ := I.pin p hp
    have nch : p.1 ∉ ch := fun z => (hch p.1 z).2.2.2 p hp rfl
    exact ⟨keep p.1 p.2 ne nf nch e n, free p.1 p.2 nch e n, ne, nf, d⟩
theorem Inv.un {t' : Nat} (I : Inv X pins σ H s) (u : Un X.fs [] H H' s.heap h') (hok : HOk X.prog X.w H' h') : Inv X pins σ H' { s with heap := h', toks := t' } := by
  obtain ⟨m, ⟨o, es, ep, ho, r⟩, _⟩ := id I.loc
  obtain ⟨sl, hL⟩ := u.any ho I.free (by simp)
  exact I.step (g' := s.gens) (d' := s.drawn) (ch := []) (fun _ z => nomatch z) (fun b o _ hb _ e n => u.keep b o e n hb (by simp)) (fun b o _ hb _ e n => u.slot b o e n hb (by simp)) (fun b o _ e n => u.free b o e n (by simp)) (fun b o _ e => u.there b o e (by simp)) u.tups u.frzs u.tbls (fun m' hm => by
    obtain ⟨o', es', ep', ho', r'⟩ := hm
    rw [ho] at ho'; cases ho'
    exact ⟨_, es', ep', hL, r'⟩) hok I.bare
theorem Inv.call {g' : Array GenState} {t' : Nat} {d' : Drawn} {ch : List Addr} (I : Inv X pins σ H s) (u : Un (frs X.stack) ch H H' s.heap h') (hok : HOk X.prog X.w H' h') (hg : AllBare g')
    (hch : ∀ b ∈ ch, (b ∈ X.ex ∨ X.s₀.heap.objs.size ≤ b) ∧ b ≠ X.env.locals ∧ (∀ x c, X.env.cells.lookup x = some c → c ≠ b) ∧ ∀ p ∈ X.pn ++ pins, p.1 ≠ b) :
    Inv X pins σ H' { s with heap := h', gens := g', drawn := d', toks := t' } := by
  obtain ⟨m, ⟨o, es, ep, ho, r⟩, _⟩ := id I.loc
  obtain ⟨sl, hL⟩ := u.any ho I.free fun z => (hch _ z).2.1 rfl
  exact I.step (ch := ch) hch (fun b o hL hb hc e n => u.keep b o e n (fun z => (List.mem_cons.mp (I.stkSub b z)).elim hL hb) hc) (fun b o _ _ hc e n => u.any e n hc) (fun b o hc e n => u.free b o e n hc) (fun b o hc e => u.there b o e hc) u.tups u.frzs u.tbls (fun m' hm => by
    obtain ⟨o', es', ep', ho', r'⟩ := hm
    rw [ho] at ho'; cases ho'
    exact ⟨_, es', ep', hL, r'⟩) hok hg
theorem Inv.turned {t' : Nat} {it : Addr} (I : Inv X pins σ H s) (k : ∀ b o, b ≠ it → s.heap.get? b = some o → h'.get? b = some o) (hn : H it = none) (hL : it ≠ X.env.locals)
    (h1 : it ∈ X.ex ∨ X.s₀.heap.objs.size ≤ it) (h2 : ∀ x c, X.env.cells.lookup x = some c → c ≠ it) (h3 : ∀ p ∈ X.pn ++ pins, p.1 ≠ it) : Inv X pins σ H { s with heap := h', toks := t' } := by
  have nit : ∀ b u, H b = some u → b ≠ it := fun b u e z => by rw [z, hn] at e; cases e
  refine I.step (g' := s.gens) (d' := s.drawn) (ch := [it]) (fun b hb => ?_) (fun b o _ _ hc e _ => k b o (fun z => hc (by simp [z])) e) (fun b o _ _ hc e _ => ⟨o.slots, k b o (fun z => hc (by simp [z])) e⟩) (fun _ _ _ _ n => n)
    (fun b o hc e => ⟨o, k b o (fun z => hc (by simp [z])) e⟩) (fun _ _ e => e) (fun _ _ _ e => e) (fun b ps e => ⟨#[], by rw [e]; simp⟩) (fun m hm => ?_) (fun b u e => ?_) I.bare
  · have e : b = it := by simpa using hb
    subst e
    exact ⟨h1, hL, h2, h3⟩
  · obtain ⟨o, es, ep, ho, r⟩ := hm
    exact ⟨o, es, ep, k _ o (Ne.symm hL) ho, r⟩
  · refine (I.hok b u e).stay (fun c v hc q => k c v ?_ q) (fun _ q => q) fun _ _ q => q
    rcases hc with z | z
    · rw [z]; exact nit b u e
    · exact nit c _ z
theorem Inv.tok (I : Inv X pins σ H s) (t : Nat) : Inv X pins σ H { s with toks := t } := I.un (h' := s.heap) (t' := t) Un.refl I.hok
theorem Inv.kept {t' : Nat} (I : Inv X pins σ H s) (k : ∀ b u, s.heap.get? b = some u → h'.get? b = some u) : Inv X pins σ H { s with heap := h', toks := t' } := I.un (Un.kept k) (I.hok.kept k)
theorem Inv.laid {a : Addr} {o : HO} {t' : Nat} (I : Inv X pins σ H s) (k : ∀ b u, s.heap.get? b = some u → h'.get? b = some u) (hp : s.heap.objs.size ≤ a) (new : ObjOk X.prog X.w (upd H a o) h' a o) :
    Inv X pins σ (upd H a o) { s with heap := h', toks := t' } := I.un (Un.laid k hp (I.hok.fresh hp)) (I.hok.laid k hp new)
theorem Inv.write {x e : Addr} {o : HO} {t' : Nat} (I : Inv X pins σ H s) (mu : Mut (H x)) (he : e = x ∨ H e = some (.own x)) (k : ∀ b u, b ≠ e → s.heap.get? b = some u → h'.get? b = some u) (heo : ∃ u, h'.get? e = some u)
    (new : ObjOk X.prog X.w (upd H x o) h' x o) : Inv X pins σ (upd H x o) { s with heap := h', toks := t' } := I.un (Un.write mu he k heo) (I.hok.write mu he k heo new)
theorem Inv.weak {σ' : List (Option V)} (I : Inv X pins σ H s) (hl : σ'.length = σ.length) (w : ∀ (i : Nat) v, σ'[i]? = some (some v) → σ[i]? = some (some v)) : Inv X pins σ' H s :=
  ⟨I.ok, I.os, I.bare, I.base, let ⟨m, hn, hl'⟩ := I.loc; ⟨m, hn, fun i x v e1 e2 e3 => hl' i x v e1 (w i v e2) e3⟩, I.cell, I.free, I.freeC, I.pin, I.hok, hl.trans I.len⟩
theorem Inv.pins_of {pins' : List (Addr × Obj)} (I : Inv X pins σ H s) (h : ∀ p ∈ pins', s.heap.get? p.1 = some p.2 ∧ H p.1 = none ∧ p.1 ≠ X.env.locals ∧ p.1 ∉ X.fs ∧ ∀ v, p.2.data ≠ .cell v) : Inv X pins' σ H s :=
  ⟨I.ok, I.os, I.bare, I.base, I.loc, I.cell, I.free, I.freeC, fun p hp => (List.mem_append.mp hp).elim (fun z => I.pin p (List.mem_append_left _ z)) (h p), I.hok, I.len⟩
theorem nodup_ix {N : List Str} (hN : N.Nodup) {i j : Nat} {x : Str} (a : N[i]? = some x) (b : N[j]? = some x) : i = j := by
  obtain ⟨h1, e1⟩ := List.getElem?_eq_some_iff.mp a
  obtain ⟨h2, e2⟩ := List.getElem?_eq_some_iff.mp b
  exact (List.getElem_inj hN).mp (e1.trans e2.symm)
theorem store_ok2 {M : Model} {A : Around} {E : Value → Shared → Prop} {i : Nat} {x : Str} {v : V} {u : Value} {Q : Unit → Shared → Prop} (I : Inv X pins σ H s) (hN : X.N.Nodup) (hi : X.N[i]? = some x) (hx : Loc X.env.scope x) (r : RelV v u)
    (h : ∀ s', Inv X pins (σ.set i (some v)) H s' → (∃ a, Heap.SameBut a s.heap s'.heap ∧ (a = X.env.locals ∨ X.env.cells.lookup x = some a)) → Q () s') (hf : X.fn x = true ∨ X.env.scope.names.lookup x = some .local := by first | exact .inl rfl | exact .inr rfl | assumption) : wpAny M A (storeName X.env x u) Q E s := by
  obtain ⟨m, hn, hl⟩ := id I.loc
  have hcls : (X.env.scope.kind == .class || (X.env.scope.kind == .module && X.env.locals != X.env.globals)) = false := by rw [I.ok.kind]; rfl
  have hiσ : i < σ.length := by rw [I.len]; exact (List.getElem?_eq_some_iff.mp hi).1
  have cne := I.cne
  have tracked : ∀ {a : Addr} {h' : Heap}, (∃ o, s.heap.get? a = some o ∧ H a = none) → Heap.SameBut a s.heap h' → HOk X.prog X.w H h' := fun {a h'} ha hs b ob e => by
    obtain ⟨_, _, hfree⟩ := ha
    refine (I.hok b ob e).stay (fun c w' hc q => (hs.2 c ?_).trans q) (fun _ q => q) fun _ _ q => q
    rintro rfl
    rcases hc with rfl | hc
    · rw [hfree] at e; cases e
    · rw [hfree] at hc; cases hc
  rcases hx with hk | hk
  · refine wpAny_storeName_local hk hn (fun h' hn' hs => ?_) hcls
    obtain ⟨oL, _, _, hoL, _⟩ := id hn
    refine h _ ⟨I.ok, I.os, I.bare, ⟨fun b o e n hb hx => ?_, fun b o e n hb hx => ?_, I.base.free, fun b o e hx => ?_, I.base.tups, I.base.frzs, I.base.tbls⟩, ⟨_, hn', fun j y v' e1 e2 e3 => ?_⟩, fun y c e => ?_, I.free, I.freeC, fun p hp => ?_, tracked ⟨oL, hoL, I.free⟩ hs, by simpa using I.len⟩ ⟨_, hs, .inl rfl⟩
    · exact (hs.2 b (Nat.ne_of_lt (Nat.lt_of_lt_of_le (Heap.lt_size e) I.ok.above))).trans (I.base.keep b o e n hb hx)
    · obtain ⟨sl, e1⟩ := I.base.slot b o e n hb hx
      exact ⟨sl, (hs.2 b (Nat.ne_of_lt (Nat.lt_of_lt_of_le (Heap.lt_size e) I.ok.above))).trans e1⟩
    · obtain ⟨o', e1⟩ := I.base.there b o e hx
      exact ⟨o', (hs.2 b (Nat.ne_of_lt (Nat.lt_of_lt_of_le (Heap.lt_size e) I.ok.above))).trans e1⟩
    · by_cases hj : j = i
      · subst hj
        rw [hi] at e1; cases e1
        rw [List.getElem?_set_self hiσ] at e2
        cases e2
        exact ⟨u, r, .inl ⟨hk, by simp⟩⟩
      · rw [List.getElem?_set_ne (Ne.symm hj)] at e2
        obtain ⟨u', r', q⟩ := hl j y v' e1 e2 e3
        refine ⟨u', r', ?_⟩
        rcases q with ⟨k, e⟩ | ⟨k, c, e, z⟩
        · refine .inl ⟨k, ?_⟩
          have : y ≠ x := fun e => hj (nodup_ix hN e1 (e ▸ hi))
          simp [this, e]
        · exact .inr ⟨k, c, e, z.sameBut hs (cne y c e)⟩
    · obtain ⟨w', z⟩ := I.cell y c e
      exact ⟨w', z.sameBut hs (cne y c e)⟩
    · obtain ⟨e, n, ne, nf, d⟩ := I.pin p hp
      exact ⟨(hs.2 p.1 ne).trans e, n, ne, nf, d⟩
  · have hfn : X.fn x = true := by
      rcases hf with z | z
      · exact z
      · rw [z] at hk; cases hk
    obtain ⟨c, hc⟩ := I.ok.has x (.inl hk)
    obtain ⟨w', z⟩ := I.cell x c hc
    refine wpAny_storeName_cell I.ok.kind hk hc z (fun h' hc' hs => ?_)
    obtain ⟨oc, hoc, hocd⟩ := id z
    refine h { s with heap := h' } ⟨I.ok, I.os, I.bare, ⟨fun b o e n hb hx => ?_, fun b o e n hb hx => ?_, I.base.free, fun b o e hx => ?_, I.base.tups, I.base.frzs, I.base.tbls⟩, ⟨m, hn.sameBut hs (Ne.symm (cne x c hc)), fun j y v' e1 e2 e3 => ?_⟩, fun y c' e => ?_, I.free, I.freeC, fun p hp => ?_, tracked ⟨oc, hoc, I.freeC x c hc⟩ hs, by simpa using I.len⟩ ⟨c, hs, .inr hc⟩
    · exact (hs.2 b (Nat.ne_of_lt (Nat.lt_of_lt_of_le (Heap.lt_size e) (I.ok.cab x c hfn hc)))).trans (I.base.keep b o e n hb hx)
    · obtain ⟨sl, e1⟩ := I.base.slot b o e n hb hx
      exact ⟨sl, (hs.2 b (Nat.ne_of_lt (Nat.lt_of_lt_of_le (Heap.lt_size e) (I.ok.cab x c hfn hc)))).trans e1⟩
    · obtain ⟨o', e1⟩ := I.base.there b o e hx
      exact ⟨o', (hs.2 b (Nat.ne_of_lt (Nat.lt_of_lt_of_le (Heap.lt_size e) (I.ok.cab x c hfn hc)))).trans e1⟩
    · by_cases hj : j = i
      · subst hj
        rw [hi] at e1; cases e1
        rw [List.getElem?_set_self hiσ] at e2
        cases e2
        exact ⟨u, r, .inr ⟨.inl hk, c, hc, hc'⟩⟩
      · rw [List.getElem?_set_ne (Ne.symm hj)] at e2
        obtain ⟨u', r', q⟩ := hl j y v' e1 e2 e3
        refine ⟨u', r', ?_⟩
        rcases q with q | ⟨k, c', e, z'⟩
        · exact .inl q
        · refine .inr ⟨k, c', e, z'.sameBut hs ?_⟩
          rintro rfl
          exact hj (nodup_ix hN e1 (I.ok.inj _ _ _ e hc ▸ hi))
    · by_cases hcc : c' = c
      · subst hcc; exact ⟨_, hc'⟩
      · obtain ⟨w2, z2⟩ := I.cell y c' e
        exact ⟨w2, z2.sameBut hs hcc⟩
    · obtain ⟨e, n, ne, nf, d⟩ := I.pin p hp
      refine ⟨(hs.2 p.1 ?_).trans e, n, ne, nf, d⟩
      intro q
      rw [q, hoc] at e
      have q' : oc = p.2 := Option.some.inj e
      exact d w' (by rw [← q']; exact hocd)
theorem store_ok {M : Model} {A : Around} {E : Value → Shared → Prop} {i : Nat} {x : Str} {v : V} {u : Value} {Q : Unit → Shared → Prop} (I : Inv X pins σ H s) (hN : X.N.Nodup) (hi : X.N[i]? = some x) (hx : Loc X.env.scope x) (r : RelV v u)
    (h : ∀ s', Inv X pins (σ.set i (some v)) H s' → Q () s') (hf : X.fn x = true ∨ X.env.scope.names.lookup x = some .local := by first | exact .inl rfl | exact .inr rfl | assumption) : wpAny M A (storeName X.env x u) Q E s :=
  store_ok2 I hN hi hx r (fun s' I' _ => h s' I') hf
theorem Inv.call' {s' : Shared} {ch : List Addr} (I : Inv X pins σ H s) (ho : s'.os = s.os) (u : Un (frs X.stack) ch H H' s.heap s'.heap) (hok : HOk X.prog X.w H' s'.heap) (hg : AllBare s'.gens)
    (hch : ∀ b ∈ ch, (b ∈ X.ex ∨ X.s₀.heap.objs.size ≤ b) ∧ b ≠ X.env.locals ∧ (∀ x c, X.env.cells.lookup x = some c → c ≠ b) ∧ ∀ p ∈ X.pn ++ pins, p.1 ≠ b) : Inv X pins σ H' s' := by
  obtain ⟨h', g', d', t', o'⟩ := s'
  have e : o' = s.os := ho
  subst e
  exact I.call (g' := g') (t' := t') (d' := d') u hok hg hch
end
abbrev XK := Value → Option Addr → Hp → Prop
abbrev St := List (Option V)
abbrev VK := V → Hp → Prop
abbrev TE := St → Hp → VK → Prop
abbrev TT := St → Hp → (Bool → Hp → Prop) → Prop
abbrev TA := St → Hp → (List V → Hp → Prop) → Prop
structure Ends where
  nx : St → Hp → Prop
  rt : VK
  bk : St → Hp → Prop := fun _ _ => False
  ct : St → Hp → Prop := fun _ _ => False
abbrev TS := Ends → St → Hp → Prop
def EP (X : Cx) (pins : List (Addr × Obj)) (σ : St) (Q : VK) (u : Value) (s' : Shared) : Prop := ∃ v H', Inv X pins σ H' s' ∧ RelV v u ∧ Q v H'
def TP (X : Cx) (pins : List (Addr × Obj)) (σ : St) (Q : Bool → Hp → Prop) (b : Bool) (s' : Shared) : Prop := ∃ H', Inv X pins σ H' s' ∧ Q b H'
def AP (X : Cx) (pins : List (Addr × Obj)) (σ : St) (Q : List V → Hp → Prop) (us : List Value) (s' : Shared) : Prop := ∃ vs H', Inv X pins σ H' s' ∧ Vals vs us ∧ Q vs H'
def SP (X : Cx) (pins : List (Addr × Obj)) (D : Ends) (f : Flow) (s' : Shared) : Prop :=
  match f with
  | .next => ∃ σ' H', Inv X pins σ' H' s' ∧ D.nx σ' H'
  | .brk => ∃ σ' H', Inv X pins σ' H' s' ∧ D.bk σ' H'
  | .cont => ∃ σ' H', Inv X pins σ' H' s' ∧ D.ct σ' H'
  | .ret u => ∃ v σ' H', Inv X pins σ' H' s' ∧ RelV v u ∧ D.rt v H'
def PE (X : Cx) (e : Expr) (t : TE) : Prop :=
  ∀ (pins : List (Addr × Obj)) (s : Shared) (σ : St) (H : Hp) (Q : VK), Inv X pins σ H s → t σ H Q → wpAny (model X.prog X.w) X.A (eval e X.env) (EP X pins σ Q) X.xe s
def PT (X : Cx) (e : Expr) (t : TT) : Prop :=
  ∀ (pins : List (Addr × Obj)) (s : Shared) (σ : St) (H : Hp) (Q : Bool → Hp → Prop), Inv X pins σ H s → t σ H Q → wpAny (model X.prog X.w) X.A (isTrue e X.env (eval e X.env)) (TP X pins σ Q) X.xe s
def PW (X : Cx) (e : Expr) (t : TT) : Prop :=
  ∀ (whole : Sem Value) (pins : List (Addr × Obj)) (s : Shared) (σ : St) (H : Hp) (Q : Bool → Hp → Prop), Inv X pins σ H s → t σ H Q → wpAny (model X.prog X.w) X.A (isTrue e X.env whole) (TP X pins σ Q) X.xe s
theorem PW.pt {X : Cx} {e : Expr} {t : TT} (h : PW X e t) : PT X e t := h _
def PA (X : Cx) (es : List Expr) (t : TA) : Prop :=
  ∀ (pos : Pos) (pins : List (Addr × Obj)) (s : Shared) (σ : St) (H : Hp) (Q : List V → Hp → Prop), Inv X pins σ H s → t σ H Q → wpAny (model X.prog X.w) X.A (spliced (backTo pos (starEach es X.env))) (AP X pins σ Q) X.xe s
def PS (X : Cx) (st : Stmt) (t : TS) : Prop :=
  ∀ (pins : List (Addr × Obj)) (s : Shared) (σ : St) (H : Hp) (D : Ends), Inv X pins σ H s → t D σ H → wpAny (model X.prog X.w) X.A (exec st X.env) (SP X pins D) X.xe s
def PSs (X : Cx) (st : List Stmt) (t : TS) : Prop :=
  ∀ (pins : List (Addr × Obj)) (s : Shared) (σ : St) (H : Hp) (D : Ends), Inv X pins σ H s → t D σ H → wpAny (model X.prog X.w) X.A (execs st X.env) (SP X pins D) X.xe s
theorem thn {α : Type} {t : Sem α} {Q Q' : α → Shared → Prop} {M : Model} {A : Around} {E : Value → Shared → Prop} {s : Shared} (h : wpAny M A t Q E s) (hQ : ∀ a s, Q a s → Q' a s) : wpAny M A t Q' E s := wpAny_mono h hQ fun _ _ x => x
end L2
namespace L2
open PySem PySem.Spec PyProof.Rows
section
variable {X : Cx}
def tVar (i : Nat) : TE := fun σ H Q => ∃ v, σ[i]? = some (some v) ∧ Q v H
def tC (v : V) : TE := fun _ H Q => Q v H
theorem pe_var {i : Nat} {x : Str} {pos : Pos} (hN : X.N[i]? = some x) (hv : Vis X.env.scope x) (hd : (x == ("__debug__" : Str)) = false := by decide) (hcd : (x == ("__classdict__" : Str)) = false := by decide) : PE X (.Name x pos) (tVar i) := by
  intro pins s σ H Q I h
  obtain ⟨v, e, h⟩ := h
  obtain ⟨m, hn, hl⟩ := I.loc
  obtain ⟨u, r, l⟩ := hl i x v hN e hv
  have fin : EP X pins σ Q u s := ⟨v, H, I, r, h⟩
  rcases l with ⟨hk, hm⟩ | ⟨hk, c, hc, hcell⟩
  · exact wpAny_Name (wpAny_loadName_local I.ok.kind hk hn hm fin) hd
  · rcases hk with hk | hk
    · exact wpAny_Name (wpAny_loadName_cell I.ok.kind hk hc hcell fin) hd
    · exact wpAny_Name (wpAny_loadName_free I.ok.kind hk hc hcell fin hcd) hd
theorem pe_int {i j pos} : PE X (.Constant (.int i) j pos) (tC (.int i)) := fun _ _ _ H _ I h => wpAny_Constant_int ⟨.int i, H, I.tok _, ⟨_, rfl⟩, h⟩
theorem pe_bl {b j pos} : PE X (.Constant (.bool b) j pos) (tC (.bl b)) := fun _ _ _ H _ I h => Constant_bool ⟨.bl b, H, I, rfl, h⟩
def Gl (X : Cx) (x : Str) : Prop := X.env.kindOf x = some .globalImplicit
theorem ld_glob {E : Value → Shared → Prop} {pins : List (Addr × Obj)} {s : Shared} {σ : St} {H : Hp} {x : Str} {u : Value} {pos : Pos} {Q : Value → Shared → Prop} (I : Inv X pins σ H s) (hg : Gl X x) (hm : X.mg x = some u) (h : Q u s)
    (hd : (x == ("__debug__" : Str)) = false := by decide) : wpAny (model X.prog X.w) X.A (eval (.Name x pos) X.env) Q E s :=
  Calls.Name_function_global I.ok.kind hg (Calls.loadGlobal_global (by rw [I.ok.glob]; exact I.mod.glob.keeps I.bk) hm h) hd
theorem ld_blt {E : Value → Shared → Prop} {pins : List (Addr × Obj)} {s : Shared} {σ : St} {H : Hp} {x : Str} {u : Value} {pos : Pos} {Q : Value → Shared → Prop} (I : Inv X pins σ H s) (hg : Gl X x) (hm : X.mg x = none) (hv : bootBuiltins x = some u) (h : Q u s)
    (hn : x ≠ "__name__" := by decide) (hd : (x == ("__debug__" : Str)) = false := by decide) : wpAny (model X.prog X.w) X.A (eval (.Name x pos) X.env) Q E s := by
  obtain ⟨mb, h1, h2⟩ := I.mod.blt
  exact Calls.Name_function_global I.ok.kind hg (Calls.loadGlobal_builtin (by rw [I.ok.glob]; exact I.mod.glob.keeps I.bk) hm (by rw [I.ok.blt]; exact h1.keeps I.bk) ((h2 x hn).trans hv) h) hd
theorem pe_glob {x : Str} {v : V} {u : Value} {pos : Pos} (hg : Gl X x) (hm : X.mg x = some u) (r : RelV v u) (hd : (x == ("__debug__" : Str)) = false := by decide) : PE X (.Name x pos) (tC v) :=
  fun _ _ _ H _ I h => ld_glob I hg hm ⟨v, H, I, r, h⟩ hd
theorem pe_bltn {x : Str} {v : V} {u : Value} {pos : Pos} (hg : Gl X x) (hm : X.mg x = none) (hv : bootBuiltins x = some u) (r : RelV v u) (hn : x ≠ "__name__" := by decide) (hd : (x == ("__debug__" : Str)) = false := by decide) : PE X (.Name x pos) (tC v) :=
  fun _ _ _ H _ I h => ld_blt I hg hm hv ⟨v, H, I, r, h⟩ hn hd
variable {a b : Expr} {ta tb : TE} {pos : Pos}
variable {tA tB' : TT} {rest : List Expr}
def tAnd (t u : TT) : TT := fun σ H Q => t σ H fun c H1 => if c = true then u σ H1 Q else Q false H1
def tOr (t u : TT) : TT := fun σ H Q => t σ H fun c H1 => if c = true then Q true H1 else u σ H1 Q
def tNot (t : TT) : TT := fun σ H Q => t σ H fun c H1 => Q (!c) H1
theorem pw_and1 (ha : PT X a tA) : PW X (.BoolOp .And [a] pos) tA := by
  intro wh pins s σ H Q I h
  refine isTrue_and (thn (ha pins s σ H Q I h) fun c s1 e => ?_)
  cases c with
  | true => exact isTrue_and_nil e
  | false => exact e
theorem pw_or1 (ha : PT X a tA) : PW X (.BoolOp .Or [a] pos) tA := by
  intro wh pins s σ H Q I h
  refine isTrue_or (thn (ha pins s σ H Q I h) fun c s1 e => ?_)
  cases c with
  | false => exact isTrue_or_nil e
  | true => exact e
theorem pw_and (ha : PT X a tA) (hb : PW X (.BoolOp .And (b :: rest) pos) tB') : PW X (.BoolOp .And (a :: b :: rest) pos) (tAnd tA tB') := by
  intro wh pins s σ H Q I h
  refine isTrue_and (thn (ha pins s σ H _ I h) fun c s1 ⟨H1, I1, q1⟩ => ?_)
  cases c with
  | true => exact hb wh pins s1 σ H1 Q I1 q1
  | false => exact ⟨H1, I1, q1⟩
theorem pw_or (ha : PT X a tA) (hb : PW X (.BoolOp .Or (b :: rest) pos) tB') : PW X (.BoolOp .Or (a :: b :: rest) pos) (tOr tA tB') := by
  intro wh pins s σ H Q I h
  refine isTrue_or (thn (ha pins s σ H _ I h) fun c s1 ⟨H1, I1, q1⟩ => ?_)
  cases c with
  | true => exact ⟨H1, I1, q1⟩
  | false => exact hb wh pins s1 σ H1 Q I1 q1
theorem pt_not (ha : PT X a tA) : PT X (.UnaryOp .Not a pos) (tNot tA) := by
  intro pins s σ H Q I h
  exact isTrue_not (ha pins s σ H (fun c H1 => Q (!c) H1) I h)
def tAndV (ta tb : TE) : TE := fun σ H Q => ta σ H fun x H1 => ∃ c, x = .bl c ∧ if c = true then tb σ H1 Q else Q (.bl false) H1
def tNotV (ta : TE) : TE := fun σ H Q => ta σ H fun x H1 => ∃ c, x = .bl c ∧ Q (.bl (!c)) H1
theorem pe_one {op} {t : TE} (h : PE X a t) : PE X (.BoolOp op [a] pos) t := fun pins s σ H Q I hw => BoolOp_one (h pins s σ H Q I hw)
theorem pe_and (ha : PE X a ta) (hb : PE X (.BoolOp .And (b :: rest) pos) tb) : PE X (.BoolOp .And (a :: b :: rest) pos) (tAndV ta tb) := by
  intro pins s σ H Q I h
  refine BoolOp_and (thn (ha pins s σ H _ I h) fun v s1 ⟨x, H1, I1, r1, q1⟩ => ?_)
  obtain ⟨c, rfl, q1⟩ := q1
  cases r1
  refine wpAny_truthy_bool ?_
  cases c with
  | true => exact hb pins s1 σ H1 Q I1 q1
  | false => exact ⟨.bl false, H1, I1, rfl, q1⟩
theorem pe_not (ha : PE X a ta) : PE X (.UnaryOp .Not a pos) (tNotV ta) := by
  intro pins s σ H Q I h
  refine UnaryOp_ (thn (ha pins s σ H _ I h) fun v s1 ⟨x, H1, I1, r1, q1⟩ => ?_)
  obtain ⟨c, rfl, q1⟩ := q1
  cases r1
  exact not_of (wpAny_truthy_bool ⟨.bl (!c), H1, I1, rfl, q1⟩)
end
end L2
namespace L2
open PySem PySem.Spec PyProof.Rows
def SqL (K : PySem.W.Frag) (H : Hp) (a : Addr) (xs : List V) : Prop :=
  Rd H a (.lst xs) ∨
    ∃ (o : Obj) (its : Array Value) (n : Nat), K.lookup a = some o ∧ o.cls = .type "list" ∧ o.dict = none ∧ o.data = .seq its n ∧ its.size ≤ sizeLine ∧ Vals xs its.toList
def SqT (K : PySem.W.Frag) (H : Hp) (a : Addr) (xs : List V) : Prop :=
  Rd H a (.tup xs) ∨
    ∃ (o : Obj) (its : Array Value) (n : Nat), K.lookup a = some o ∧ o.cls = .type "tuple" ∧ o.data = .seq its n ∧ its.size ≤ sizeLine ∧ Vals xs its.toList
def absV : Value → Option V
  | .none => some .non
  | .bool b => some (.bl b)
  | .int i _ => some (.int i)
  | .str x _ => some (.str x)
  | .bytes b _ => some (.byt b)
  | .float b _ => some (.flt b)
  | .ref a => some (.ref a)
  | .type n => some (.ty n)
  | _ => none
theorem RelV.abs {x : V} {u : Value} (r : RelV x u) : absV u = some x := by
  cases x with
  | non => cases r; rfl
  | bl _ => cases r; rfl
  | int _ => obtain ⟨t, rfl⟩ := r; rfl
  | str _ => obtain ⟨t, rfl⟩ := r; rfl
  | byt _ => obtain ⟨t, rfl⟩ := r; rfl
  | flt _ => obtain ⟨t, rfl⟩ := r; rfl
  | ref _ => cases r; rfl
  | ty _ => cases r; rfl
theorem RelV.inj {x y : V} {u : Value} (r : RelV x u) (q : RelV y u) : x = y := Option.some.inj (r.abs.symm.trans q.abs)
theorem Vals.inj : ∀ {xs ys : List V} {us : List Value}, Vals xs us → Vals ys us → xs = ys
  | _, _, _, .nil, .nil => rfl
  | _, _, _, .cons r t, .cons r' t' => by rw [r.inj r', Vals.inj t t']
section
variable {X : Cx} {pins : List (Addr × Obj)} {σ : St} {H : Hp} {s : Shared} {a : Addr} {xs ys : List V}
theorem SqL.of {K : PySem.W.Frag} (h : H a = some (.lst xs)) : SqL K H a xs := .inl (.inl h)
theorem Inv.list (I : Inv X pins σ H s) (h : SqL X.K H a xs) : ∃ its : List Value, Vals xs its ∧ PlainL s.heap a its.toArray ∧ xs.length ≤ sizeLine := by
  rcases h with h | ⟨o, its, n, hk, hc, hd, hs, hz, r⟩
  · obtain ⟨z, its, n, r, e⟩ := h.ok I.hok
    exact ⟨its, r, ⟨_, n, e, rfl, rfl, rfl⟩, z⟩
  · refine ⟨its.toList, r, ⟨o, n, I.kIn a o hk, hc, hd, by simpa using hs⟩, ?_⟩
    have e := r.length
    simp only [Array.length_toList] at e
    omega
theorem Inv.tuple (I : Inv X pins σ H s) (h : SqT X.K H a xs) : ∃ its : List Value, Vals xs its ∧ IsTup s.heap a its.toArray ∧ xs.length ≤ sizeLine := by
  rcases h with h | ⟨o, its, n, hk, hc, hs, hz, r⟩
  · obtain ⟨z, its, r, p⟩ := h.ok I.hok
    exact ⟨its, r, p, z⟩
  · refine ⟨its.toList, r, ⟨o, I.kIn a o hk, hc, n, by simpa using hs⟩, ?_⟩
    have e := r.length
    simp only [Array.length_toList] at e
    omega
theorem Inv.list_inj (I : Inv X pins σ H s) (h : SqL X.K H a xs) (h' : SqL X.K H a ys) : xs = ys := by
  obtain ⟨its, r, ⟨o, n, e, _, _, d⟩, _⟩ := I.list h
  obtain ⟨its', r', ⟨o', n', e', _, _, d'⟩, _⟩ := I.list h'
  rw [e] at e'; cases e'
  rw [d] at d'
  injection d' with d1 _
  have : its = its' := by simpa using congrArg Array.toList d1
  subst this
  exact r.inj r'
end
abbrev Cx.wish (X : Cx) (E : Value → Shared → Prop) : Cx := { X with xe := E }
abbrev Cx.nox (X : Cx) : Cx := X.wish fun _ _ => False
theorem Cx.Ok.wish {X : Cx} (ok : X.Ok) (E : Value → Shared → Prop) : (X.wish E).Ok :=
  ⟨ok.mod, ok.kind, ok.glob, ok.blt, ok.above, ok.inj, ok.has, ok.cab, ok.hd, ok.frames, ok.stk, ok.exf, ok.bs, ok.bsz, ok.noex, ok.exfs, ok.funs, ok.frf⟩
theorem Cx.Ok.unwish {X : Cx} {E : Value → Shared → Prop} (ok : (X.wish E).Ok) : X.Ok :=
  ⟨ok.mod, ok.kind, ok.glob, ok.blt, ok.above, ok.inj, ok.has, ok.cab, ok.hd, ok.frames, ok.stk, ok.exf, ok.bs, ok.bsz, ok.noex, ok.exfs, ok.funs, ok.frf⟩
section
variable {X : Cx} {pins : List (Addr × Obj)} {σ : St} {H : Hp} {s : Shared} {E : Value → Shared → Prop}
theorem Inv.wish (I : Inv X pins σ H s) (E : Value → Shared → Prop) : Inv (X.wish E) pins σ H s := ⟨I.ok.wish E, I.os, I.bare, I.base, I.loc, I.cell, I.free, I.freeC, I.pin, I.hok, I.len⟩
theorem Inv.unwish (I : Inv (X.wish E) pins σ H s) : Inv X pins σ H s := ⟨I.ok.unwish, I.os, I.bare, I.base, I.loc, I.cell, I.free, I.freeC, I.pin, I.hok, I.len⟩
theorem SP.unwish {D : Ends} {f : Flow} {s' : Shared} (h : SP (X.wish E) pins D f s') : SP X pins D f s' := by
  cases f with
  | next => obtain ⟨σ', H', I, q⟩ := h; exact ⟨σ', H', I.unwish, q⟩
  | brk => obtain ⟨σ', H', I, q⟩ := h; exact ⟨σ', H', I.unwish, q⟩
  | cont => obtain ⟨σ', H', I, q⟩ := h; exact ⟨σ', H', I.unwish, q⟩
  | ret u => obtain ⟨v, σ', H', I, r, q⟩ := h; exact ⟨v, σ', H', I.unwish, r, q⟩
theorem PSs.nox {st : List Stmt} {t : TS} (h : PSs X.nox st t) : PSs X st t := fun pins s σ H D I hw =>
  wpAny_mono (h pins s σ H D (I.wish _) hw) (fun _ _ q => q.unwish) fun _ _ z => False.elim z
end
section
variable {X : Cx} {st : Stmt} {rest : List Stmt} {t u : TS} {e : Expr} {te : TE} {pos : Pos}
def tNext : TS := fun D σ H => D.nx σ H
def tSeq (t u : TS) : TS := fun D σ H => t { D with nx := u D } σ H
theorem pss_nil : PSs X [] tNext := fun _ _ σ H _ I h => wpAny_execs_nil ⟨σ, H, I, h⟩
theorem pss_cons (h1 : PS X st t) (h2 : PSs X rest u) : PSs X (st :: rest) (tSeq t u) := by
  intro pins s σ H D I h
  refine wpAny_execs_cons (thn (h1 pins s σ H { D with nx := u D } I h) fun f s1 q => ?_)
  cases f with
  | next =>
    obtain ⟨σ', H', I', q⟩ := q
    exact h2 pins s1 σ' H' D I' q
  | ret v => exact q
  | brk => exact q
  | cont => exact q
theorem pss_one (h1 : PS X st t) : PSs X [st] t := by
  intro pins s σ H D I h
  refine wpAny_execs_cons (thn (h1 pins s σ H D I h) fun f s1 q => ?_)
  cases f with
  | next => exact wpAny_execs_nil q
  | ret v => exact q
  | brk => exact q
  | cont => exact q
theorem Inv.quiet {pins : List (Addr × Obj)} {σ : St} {H : Hp} {s : Shared} (I : Inv X pins σ H s) : interactive X.env = false := by simp [interactive, I.ok.kind]
def tDrop (te : TE) : TS := fun D σ H => te σ H fun _ H1 => D.nx σ H1
theorem ps_expr (he : PE X e te) (hs : swapsWith e none pos.line X.env = pure false := by rfl) : PS X (.Expr e pos) (tDrop te) := by
  intro pins s σ H D I h
  exact wpAny_Expr_any (thn (he pins s σ H _ I h) fun v s1 ⟨x, H1, I1, r1, q1⟩ => ⟨σ, H1, I1, q1⟩) I.quiet hs
def tRet (te : TE) : TS := fun D σ H => te σ H D.rt
theorem ps_ret (he : PE X e te) : PS X (.Return (some e) pos) (tRet te) := by
  intro pins s σ H D I h
  exact wpAny_Return_some (thn (he pins s σ H _ I h) fun v s1 ⟨x, H1, I1, r1, q1⟩ => ⟨x, σ, H1, I1, r1, q1⟩)
def tIfS (c : TT) (t u : TS) : TS := fun D σ H => c σ H fun b H1 => if b = true then t D σ H1 else u D σ H1
theorem ps_if {c : Expr} {a b : List Stmt} {tc : TT} (hc : PT X c tc) (ha : PSs X a t) (hb : PSs X b u) : PS X (.If c a b pos) (tIfS tc t u) := by
  intro pins s σ H D I h
  refine wpAny_If (thn (hc pins s σ H _ I h) fun d s1 ⟨H1, I1, q1⟩ => ?_)
  cases d with
  | true => exact ha pins s1 σ H1 D I1 q1
  | false => exact hb pins s1 σ H1 D I1 q1
end
abbrev TG := V → St → Hp → (St → Hp → Prop) → Prop
abbrev TGs := List V → St → Hp → (St → Hp → Prop) → Prop
def PG (X : Cx) (target : Expr) (t : TG) : Prop :=
  ∀ (pins : List (Addr × Obj)) (s : Shared) (σ : St) (H : Hp) (v : V) (u : Value) (Q : St → Hp → Prop), Inv X pins σ H s → RelV v u → t v σ H Q →
    wpAny (model X.prog X.w) X.A (assign target X.env u) (fun _ s' => ∃ σ' H', Inv X pins σ' H' s' ∧ Q σ' H') X.xe s
def PGs (X : Cx) (ts : List Expr) (t : TGs) : Prop :=
  ∀ (pins : List (Addr × Obj)) (s : Shared) (σ : St) (H : Hp) (vs : List V) (us : List Value) (Q : St → Hp → Prop), Inv X pins σ H s → Vals vs us → t vs σ H Q →
    wpAny (model X.prog X.w) X.A (assignInOrder ((assignEach ts X.env).map (·.2)) us) (fun _ s' => ∃ σ' H', Inv X pins σ' H' s' ∧ Q σ' H') X.xe s
abbrev TSet := V → V → V → Hp → (Hp → Prop) → Prop
def PSet (X : Cx) (t : TSet) : Prop :=
  ∀ (pins : List (Addr × Obj)) (s : Shared) (σ : St) (H : Hp) (o i v : V) (ov iv u : Value) (Q : Hp → Prop), Inv X pins σ H s → RelV o ov → RelV i iv → RelV v u → t o i v H Q →
    wpAny (model X.prog X.w) X.A (setItem ov iv u) (fun _ s' => ∃ H', Inv X pins σ H' s' ∧ Q H') X.xe s
section
variable {X : Cx} {pos : Pos}
def gName (i : Nat) : TG := fun v σ H Q => Q (σ.set i (some v)) H
theorem pg_name {i : Nat} {x : Str} (hN : X.N.Nodup) (hi : X.N[i]? = some x) (hx : Loc X.env.scope x) (hf : X.fn x = true ∨ X.env.scope.names.lookup x = some .local := by first | exact .inl rfl | exact .inr rfl | assumption) : PG X (.Name x pos) (gName i) := by
  intro pins s σ H v u Q I r h
  exact wpAny_assign_Name (store_ok I hN hi hx r (fun s' I' => ⟨_, H, I', h⟩) hf)
def gNil : TGs := fun vs σ H Q => vs = [] ∧ Q σ H
def gCons (t : TG) (u : TGs) : TGs := fun vs σ H Q => ∃ v r, vs = v :: r ∧ t v σ H fun σ' H' => u r σ' H' Q
theorem pgs_nil : PGs X [] gNil := by
  intro pins s σ H vs us Q I r h
  obtain ⟨e, h⟩ := h
  subst e
  cases r
  exact assignInOrder_nil ⟨σ, H, I, h⟩
theorem pgs_cons {e : Expr} {es : List Expr} {t : TG} {u : TGs} (h1 : PG X e t) (h2 : PGs X es u)
    (hs : (assignEach (e :: es) X.env).map (·.2) = assign e X.env :: (assignEach es X.env).map (·.2) := by rfl) : PGs X (e :: es) (gCons t u) := by
  intro pins s σ H vs us Q I r h
  obtain ⟨v, vr, e1, h⟩ := h
  subst e1
  cases r with
  | cons r rr =>
    rw [hs]
    refine assignInOrder_cons (thn (h1 pins s σ H _ _ _ I r h) fun _ s1 ⟨σ1, H1, I1, q1⟩ => ?_)
    exact h2 pins s1 σ1 H1 _ _ Q I1 rr q1
def gTup (K : PySem.W.Frag) (n : Nat) (t : TGs) : TG := fun v σ H Q => ∃ a xs, v = .ref a ∧ SqT K H a xs ∧ xs.length = n ∧ t xs σ H Q
theorem pg_tup {es : List Expr} {k : Nat} {t : TGs} {n : Nat} (hc : X.calm = true) (h : PGs X es t)
    (hn : (assignEach es X.env).length = n := by rfl) (hst : (assignEach es X.env).findIdx? (·.1) = none := by rfl) : PG X (.Tuple es k pos) (gTup X.K n t) := by
  intro pins s σ H v u Q I r hw
  obtain ⟨a, xs, e1, hq, hl, hw⟩ := hw
  subst e1
  cases r
  obtain ⟨its, rv, ht, hz⟩ := I.tuple hq
  refine assign_Tuple_tuple (I.ok.hd hc) ht (by simp [hn, ← hl, rv.length]) hst fun h' hx => ?_
  have I1 : Inv X pins σ H { s with heap := h' } := I.kept (t' := s.toks) fun b o e => hx b o (Nat.ne_of_lt (Heap.lt_size e)) e
  exact h pins _ σ H xs _ Q I1 (by simpa using rv) hw
def gSub (to ti : TE) (t : TSet) : TG := fun v σ H Q => to σ H fun o H1 => ti σ H1 fun i H2 => t o i v H2 fun H3 => Q σ H3
theorem pg_sub {o i : Expr} {to ti : TE} {t : TSet} (ho : PE X o to) (hi : PE X i ti) (hs : PSet X t)
    (ha : ∀ v, assign (.Subscript o i pos) X.env v = (do
      let ov ← holding [v] (eval o X.env)
      let iv ← holding [v, ov] (eval i X.env)
      standAt pos
      holding [v, ov, iv] (setItem ov iv v)
      release [v, ov, iv] []) := by intro _; rfl) : PG X (.Subscript o i pos) (gSub to ti t) := by
  intro pins s σ H v u Q I r h
  rw [ha]
  refine wpAny_bind (wpAny_holding (thn (ho pins s σ H _ I h) fun ov s1 ⟨x, H1, I1, r1, q1⟩ => ?_))
  refine wpAny_bind (wpAny_holding (thn (hi pins s1 σ H1 _ I1 q1) fun iv s2 ⟨y, H2, I2, r2, q2⟩ => ?_))
  refine wpAny_bind (wpAny_standAt (wpAny_bind (wpAny_holding (thn (hs pins s2 σ H2 x y v ov iv u _ I2 r1 r2 r q2) fun _ s3 ⟨H3, I3, q3⟩ => ?_))))
  exact wpAny_release ⟨σ, H3, I3, q3⟩
def tAsg (te : TE) (g : TG) : TS := fun D σ H => te σ H fun x H1 => g x σ H1 D.nx
theorem ps_asg {tg e : Expr} {te : TE} {g : TG} (he : PE X e te) (hg : PG X tg g) (hs : swapsWithSole [tg] e pos.line X.env = pure false := by rfl) (hw : swappedStores [tg] e X.env = pure none := by rfl)
    (h1 : (assignEach [tg] X.env).map (·.2) = [assign tg X.env] := by rfl) : PS X (.Assign [tg] e pos) (tAsg te g) := by
  intro pins s σ H D I h
  refine wpAny_Assign_stores (thn (he pins s σ H _ I h) fun v s1 ⟨x, H1, I1, r1, q1⟩ => ?_) hs hw
  rw [h1]
  exact thn (hg pins s1 σ H1 x v _ I1 r1 q1) fun _ s2 q => q
theorem ps_set {i : Nat} {x : Str} {e : Expr} {te : TE} {pos' : Pos} (hN : X.N.Nodup) (hi : X.N[i]? = some x) (hx : Loc X.env.scope x) (he : PE X e te) (hs : swapsWith e (some (.Name x pos')) pos.line X.env = pure false := by rfl) (hf : X.fn x = true ∨ X.env.scope.names.lookup x = some .local := by first | exact .inl rfl | exact .inr rfl | assumption) :
    PS X (.Assign [.Name x pos'] e pos) (tAsg te (gName i)) := by
  intro pins s σ H D I h
  refine wpAny_Assign_Name (thn (he pins s σ H _ I h) fun v s1 ⟨y, H1, I1, r1, q1⟩ => ?_) hs
  exact store_ok I1 hN hi hx r1 (fun s2 I2 => ⟨_, H1, I2, q1⟩) hf
end
section
variable {X : Cx} {pos : Pos}
def tWhile (c : TT) (tb : TS) : TS := fun D σ H => ∃ W : Nat → St → Hp → Prop, (∃ m, W m σ H) ∧ ∀ m σ H, W m σ H →
  c σ H fun b H1 => if b = true then ∃ N : St → Hp → Prop, (∀ σ' H', N σ' H' → ∃ m', m' < m ∧ W m' σ' H') ∧ tb { D with nx := N, ct := N, bk := D.nx } σ H1 else D.nx σ H1
theorem ps_while {c : Expr} {body : List Stmt} {tc : TT} {tb : TS} (hp : PassesOwn (model X.prog X.w) X.A X.env X.xe) (hc : PT X c tc) (hb : PSs X body tb) : PS X (.While c body [] pos) (tWhile tc tb) := by
  intro pins s σ H D I h
  obtain ⟨W, ⟨m0, w0⟩, turn⟩ := h
  refine wpAny_While (codeAny_whileLoop (fun n s' => ∃ σ' H', Inv X pins σ' H' s' ∧ W n σ' H') ?_ m0 ⟨σ, H, I, w0⟩)
  rintro n s1 ⟨σ1, H1, I1, w1⟩
  refine wpAny_passesOwn hp (thn (hc pins s1 σ1 H1 _ I1 (turn n σ1 H1 w1)) fun b s2 ⟨H2, I2, q2⟩ => ?_)
  cases b with
  | true =>
    obtain ⟨N, hN, q2⟩ := q2
    rw [if_pos rfl]
    refine wpAny_passesOwn hp (thn (hb pins s2 σ1 H2 _ I2 q2) fun f s3 q3 => ?_)
    cases f with
    | next =>
      obtain ⟨σ3, H3, I3, n3⟩ := q3
      obtain ⟨m', hm, w3⟩ := hN σ3 H3 n3
      exact ⟨m', hm, σ3, H3, I3, w3⟩
    | cont =>
      obtain ⟨σ3, H3, I3, n3⟩ := q3
      obtain ⟨m', hm, w3⟩ := hN σ3 H3 n3
      exact ⟨m', hm, σ3, H3, I3, w3⟩
    | brk => exact q3
    | ret v => exact q3
  | false =>
    rw [if_neg Bool.false_ne_true]
    exact wpAny_execs_nil ⟨σ1, H2, I2, q2⟩
end
structure It where
  go : Nat → Hp → Prop
  yld : Nat → Hp → V → Hp → Prop
  stop : Nat → Hp → Prop
def FpOk (X : Cx) (pins : List (Addr × Obj)) (H : Hp) (b : Addr) : Prop :=
  H b = none ∧ b ≠ X.env.locals ∧ b ∉ X.fs ∧ (b ∈ X.ex ∨ X.s₀.heap.objs.size ≤ b) ∧ (∀ x c, X.env.cells.lookup x = some c → c ≠ b) ∧ ∀ p ∈ X.pn ++ pins, p.1 ≠ b
theorem Inv.fpOk {X : Cx} {pins : List (Addr × Obj)} {σ : St} {H H' : Hp} {s : Shared} {b : Addr} (I : Inv X pins σ H s) (hb : s.heap.objs.size ≤ b) (hn : H' b = none) : FpOk X pins H' b := by
  refine ⟨hn, Nat.ne_of_gt (Nat.lt_of_lt_of_le I.lt hb), I.nofs hb, .inr (Nat.le_trans I.sz hb), fun x c e z => ?_, fun p hp z => ?_⟩
  · obtain ⟨v, q⟩ := I.cell x c e
    exact absurd (Nat.lt_of_lt_of_le q.lt (by rw [z]; exact hb)) (Nat.lt_irrefl _)
  · exact absurd (Nat.lt_of_lt_of_le (Heap.lt_size (I.pin p hp).1) (by rw [z]; exact hb)) (Nat.lt_irrefl _)
structure Turn (P : Program) (w : World) (K : PySem.W.Frag) (tg : Expr) (J : It) (fp : List Addr) (it : Addr) (tn : Nat → Heap → Prop) : Prop where
  mem : it ∈ fp
  obj : ∀ i h, tn i h → ∀ b ∈ fp, ∃ o, h.get? b = some o ∧ ∀ v, o.data ≠ .cell v
  keep : ∀ i h h', tn i h → (∀ b ∈ fp, ∀ o, h.get? b = some o → h'.get? b = some o) → tn i h'
  item : ∀ (X : Cx), X.prog = P → X.w = w → X.K = K → X.calm = true → ∀ (i : Nat) (pins : List (Addr × Obj)) (s : Shared) (σ : St) (H : Hp) (E : Value → Shared → Prop), Inv X pins σ H s → (∀ b ∈ fp, FpOk X pins H b) → tn i s.heap → J.go i H →
    wpAny (model P w) X.A (pyNext (.ref it)) (fun r s1 => ∃ u, r = some u ∧
      wpAny (model P w) X.A (letOwnedTupleGo tg (.ref it) u) (fun _ s2 => ∃ x H', Inv X pins σ H' s2 ∧ RelV x u ∧ J.yld i H x H' ∧ tn (i + 1) s2.heap ∧ ∀ b ∈ fp, H' b = none) E s1) E s
  done : ∀ (X : Cx), X.prog = P → X.w = w → X.K = K → X.calm = true → ∀ (i : Nat) (pins : List (Addr × Obj)) (s : Shared) (σ : St) (H : Hp) (E : Value → Shared → Prop), Inv X pins σ H s → (∀ b ∈ fp, FpOk X pins H b) → tn i s.heap → J.stop i H →
    wpAny (model P w) X.A (pyNext (.ref it)) (fun r s1 => r = none ∧ Inv X pins σ H s1) E s
  self : ∀ (A : Around) (i : Nat) (s : Shared) (Q : Value → Shared → Prop) (E : Value → Shared → Prop), tn i s.heap → Q (.ref it) s → wpAny (model P w) A (pyIter (.ref it)) Q E s
abbrev TI := St → Hp → (It → Hp → Prop) → Prop
def PIE (X : Cx) (pins : List (Addr × Obj)) (σ : St) (tg : Expr) (R : It → Hp → Prop) (itv : Value) (s2 : Shared) : Prop :=
  ∃ (it : Addr) (fp : List Addr) (tn : Nat → Heap → Prop) (J : It) (H' : Hp), itv = .ref it ∧ Inv X pins σ H' s2 ∧ Turn X.prog X.w X.K tg J fp it tn ∧ tn 0 s2.heap ∧ (∀ b ∈ fp, FpOk X pins H' b) ∧ R J H'
def PI (X : Cx) (tg iter : Expr) (wi : TI) : Prop :=
  ∀ (pins : List (Addr × Obj)) (s : Shared) (σ : St) (H : Hp) (R : It → Hp → Prop), Inv X pins σ H s → wi σ H R →
    wpAny (model X.prog X.w) X.A (eval iter X.env) (fun v s1 => wpAny (model X.prog X.w) X.A (pyIter v) (PIE X pins σ tg R) X.xe s1) X.xe s
theorem go_of {M : Model} {A : Around} {E : Value → Shared → Prop} {s : Shared} {tg : Expr} {it : Addr} {u : Value} {o : Obj} {n : String} {vs : Array Value} {Q : Unit → Shared → Prop} (ho : s.heap.get? it = some o) (hc : o.cls = .type n) (hd : o.data = .fields vs)
    (hn : ["enumerate", "zip", "dict_itemiterator", "dict_reverseitemiterator", "odict_iterator", "itertools.zip_longest", "itertools.pairwise"].contains n = false) (hQ : Q () s) : wpAny M A (letOwnedTupleGo tg (.ref it) u) Q E s := by
  unfold letOwnedTupleGo
  cases tg <;> first
    | exact wpAny_pure hQ
    | (cases u <;> first
        | exact wpAny_pure hQ
        | (refine wpAny_bind (wpAny_load ho ?_)
           rw [hc, hd]
           show wpAny M A (if (["enumerate", "zip", "dict_itemiterator", "dict_reverseitemiterator", "odict_iterator", "itertools.zip_longest", "itertools.pairwise"].contains n && vs[0]? == some (rawInt _)) = true then _ else _) Q E s
           rw [if_neg (by intro h; rw [hn, Bool.false_and] at h; cases h)]
           exact wpAny_pure hQ))
def Itl (K : PySem.W.Frag) (a : Addr) : It :=
  ⟨fun i H => ∃ xs x, SqL K H a xs ∧ xs[i]? = some x, fun i H x H' => H' = H ∧ ∀ xs, SqL K H a xs → xs[i]? = some x, fun i H => ∃ xs, SqL K H a xs ∧ xs.length ≤ i⟩
theorem turn_list {P : Program} {w : World} {K : PySem.W.Frag} {tg : Expr} (a it : Addr) : Turn P w K tg (Itl K a) [it] it (fun i h => h.IsListIter it a i) where
  mem := by simp
  obj := fun i h st b hb => by
    have e : b = it := by simpa using hb
    subst e
    obtain ⟨o, e, c, d⟩ := st
    exact ⟨o, e, fun v z => by rw [d] at z; cases z⟩
  keep := fun i h h' st k => st.at fun o e => k it (by simp) o e
  item := by
    intro X hP hw hK hc i pins s σ H E I hf st hg
    subst hP hw hK
    obtain ⟨xs, x, hq, hx⟩ := hg
    obtain ⟨its, rv, p, hz⟩ := I.list hq
    obtain ⟨u, hu, ru⟩ := rv.get hx
    obtain ⟨f0, f1, f2, f3, f4, f5⟩ := hf it (by simp)
    refine wpAny_pyNext_list_item st p.isList (x := u) (by simpa using hu) fun h' st' sb => ?_
    have I1 : Inv X pins σ H { s with heap := h' } := I.turned (t' := s.toks) (fun b o hb e => (sb.2 b hb).trans e) f0 f1 f3 f4 f5
    obtain ⟨o, e, c, d⟩ := id st'
    exact ⟨u, rfl, go_of (s := { s with heap := h' }) e c d (by decide) ⟨x, H, I1, ru, ⟨rfl, fun ys hy => by rw [I.list_inj hy hq]; exact hx⟩, st', fun b hb => (hf b hb).1⟩⟩
  done := by
    intro X hP hw hK hc i pins s σ H E I hf st hg
    subst hP hw hK
    obtain ⟨xs, hq, hx⟩ := hg
    obtain ⟨its, rv, p, hz⟩ := I.list hq
    obtain ⟨f0, f1, f2, f3, f4, f5⟩ := hf it (by simp)
    have hl := rv.length
    exact wpAny_pyNext_list_end (I.ok.hd hc) st p.isList (by simp; omega) fun h' eb => ⟨rfl, I.turned (t' := s.toks) (fun b o hb e => eb b o hb e) f0 f1 f3 f4 f5⟩
  self := fun _ _ _ _ _ st h => wpAny_pyIter_listiter st h
end L2
namespace L2
open PySem PySem.Spec PyProof.Rows
section
variable {X : Cx} {tg : Expr}
def iList (K : PySem.W.Frag) (tl : TE) : TI := fun σ H R => tl σ H fun x H1 => ∃ a, x = .ref a ∧ (∃ xs, SqL K H1 a xs) ∧ R (Itl K a) H1
theorem pi_list {l : Expr} {tl : TE} (hl : PE X l tl) : PI X tg l (iList X.K tl) := by
  intro pins s σ H R I h
  refine thn (hl pins s σ H _ I h) fun v s1 ⟨x, H1, I1, r1, q1⟩ => ?_
  obtain ⟨a, e, ⟨xs, hq⟩, q⟩ := q1
  subst e
  cases r1
  obtain ⟨its, rv, p, hz⟩ := I1.list hq
  refine wpAny_pyIter_list p.isList ?_
  refine ⟨s1.heap.objs.size, [s1.heap.objs.size], _, _, H1, rfl, I1.kept (t' := s1.toks) fun b o e => Heap.get?_push_of_some _ e, turn_list a _, ⟨_, Heap.get?_push_size _ rfl, rfl, rfl⟩, fun b hb => ?_, q⟩
  have e : b = s1.heap.objs.size := by simpa using hb
  subst e
  exact I1.fpOk (Nat.le_refl _) (I1.hok.fresh (Nat.le_refl _))
def tFor (wi : TI) (g : TG) (tb : TS) : TS := fun D σ H => wi σ H fun J H1 => ∃ W : Nat → Nat → St → Hp → Prop, (∃ m, W 0 m σ H1) ∧ ∀ i m σ H, W i m σ H →
  (J.stop i H ∧ D.nx σ H) ∨ (J.go i H ∧ ∃ N : St → Hp → Prop, (∀ σ' H', N σ' H' → ∃ m', m' < m ∧ W (i + 1) m' σ' H') ∧ ∀ x H', J.yld i H x H' → g x σ H' fun σ2 H2 => tb { D with nx := N, ct := N, bk := D.nx } σ2 H2)
def pinsAt (fp : List Addr) (h : Heap) : List (Addr × Obj) := fp.filterMap fun b => (h.get? b).map fun o => (b, o)
theorem mem_pinsAt {fp : List Addr} {h : Heap} {b : Addr} {o : Obj} (hb : b ∈ fp) (e : h.get? b = some o) : (b, o) ∈ pinsAt fp h := List.mem_filterMap.mpr ⟨b, hb, by rw [e]; rfl⟩
theorem of_pinsAt {fp : List Addr} {h : Heap} {p : Addr × Obj} (hp : p ∈ pinsAt fp h) : p.1 ∈ fp ∧ h.get? p.1 = some p.2 := by
  obtain ⟨b, hb, e⟩ := List.mem_filterMap.mp hp
  cases q : h.get? b with
  | none => rw [q] at e; cases e
  | some o =>
    rw [q] at e
    have e' : (b, o) = p := Option.some.inj e
    subst e'
    exact ⟨hb, q⟩
theorem Inv.pinned {pins : List (Addr × Obj)} {σ : St} {H : Hp} {s : Shared} {fp : List Addr} (I : Inv X pins σ H s) (hf : ∀ b ∈ fp, FpOk X pins H b) (ho : ∀ b ∈ fp, ∃ o, s.heap.get? b = some o ∧ ∀ v, o.data ≠ .cell v) : Inv X (pins ++ pinsAt fp s.heap) σ H s :=
  I.pins_of fun p hp => (List.mem_append.mp hp).elim (fun z => I.pin p (List.mem_append_right _ z)) fun z => by
    obtain ⟨hb, e⟩ := of_pinsAt z
    obtain ⟨f0, f1, f2, _⟩ := hf p.1 hb
    obtain ⟨o, e', d⟩ := ho p.1 hb
    rw [e] at e'; cases e'
    exact ⟨e, f0, f1, f2, d⟩
theorem Inv.unpinned {pins pl : List (Addr × Obj)} {σ : St} {H : Hp} {s : Shared} (I : Inv X (pins ++ pl) σ H s) : Inv X pins σ H s := I.pins_of fun p hp => I.pin p (List.mem_append_right _ (List.mem_append_left _ hp))
theorem ps_for {iter : Expr} {body : List Stmt} {wi : TI} {g : TG} {tb : TS} {pos : Pos} (hp : PassesOwn (model X.prog X.w) X.A X.env X.xe) (hc : X.calm = true) (hi : PI X tg iter wi) (hg : PG X tg g) (hb : PSs X body tb)
    (hs : ∀ x, foldedSetIterable iter X.env x = pure x := by intro _; rfl) : PS X (.For tg iter body [] pos) (tFor wi g tb) := by
  intro pins s σ H D I h
  refine wpAny_For (thn (hi pins s σ H _ I h) fun v s1 h1 => thn h1 fun itv s2 h2 => ?_) hs
  obtain ⟨it, fp, tn, J, H2, e, I2, T, st2, f2, W, ⟨m0, w0⟩, turn⟩ := h2
  subst e
  -- what stays true of the iterator's objects through the loop
  have stat : ∀ {H' : Hp}, (∀ b ∈ fp, H' b = none) → ∀ b ∈ fp, FpOk X pins H' b := fun hn b hb => ⟨hn b hb, (f2 b hb).2⟩
  refine codeAny_forLoop_any (fun n s' => ∃ i σ' H', Inv X pins σ' H' s' ∧ tn i s'.heap ∧ (∀ b ∈ fp, H' b = none) ∧ W i n σ' H') ?_ m0 ⟨0, σ, H2, I2, st2, fun b hb => (f2 b hb).1, w0⟩
  rintro n s3 ⟨i, σ3, H3, I3, st3, fr3, w3⟩
  rcases turn i n σ3 H3 w3 with ⟨stop, qn⟩ | ⟨go, N, hN, step⟩
  · refine wpAny_passesOwn hp (thn (T.done X rfl rfl rfl hc i pins s3 σ3 H3 X.xe I3 (stat fr3) st3 stop) fun r s4 ⟨hr, I4⟩ => ?_)
    subst hr
    exact wpAny_execs_nil ⟨σ3, H3, I4, qn⟩
  · refine wpAny_passesOwn hp (thn (T.item X rfl rfl rfl hc i pins s3 σ3 H3 X.xe I3 (stat fr3) st3 go) fun r s4 ⟨u, hr, h4⟩ => ?_)
    subst hr
    refine wpAny_passesOwn hp (thn h4 fun _ s5 ⟨x, H5, I5, r5, y5, st5, fr5⟩ => ?_)
    have I5' := I5.pinned (stat fr5) (T.obj _ _ st5)
    refine wpAny_passesOwn hp (thn (hg _ s5 σ3 H5 x u _ I5' r5 (step x H5 y5)) fun _ s6 ⟨σ6, H6, I6, q6⟩ => ?_)
    refine wpAny_passesOwn hp (thn (hb _ s6 σ6 H6 _ I6 q6) fun f s7 q7 => ?_)
    have again : ∀ {σ7 : St} {H7 : Hp}, Inv X (pins ++ pinsAt fp s5.heap) σ7 H7 s7 → N σ7 H7 → ∃ m, m < n ∧ ∃ i σ' H', Inv X pins σ' H' s7 ∧ tn i s7.heap ∧ (∀ b ∈ fp, H' b = none) ∧ W i m σ' H' := fun {σ7 H7} I7 n7 => by
      obtain ⟨m', hm, w7⟩ := hN σ7 H7 n7
      refine ⟨m', hm, i + 1, σ7, H7, I7.unpinned, T.keep _ _ _ st5 fun b hb o e => (I7.pin (b, o) (List.mem_append_right _ (List.mem_append_right _ (mem_pinsAt hb e)))).1, fun b hb => ?_, w7⟩
      obtain ⟨o, e, d⟩ := T.obj _ _ st5 b hb
      exact (I7.pin (b, o) (List.mem_append_right _ (List.mem_append_right _ (mem_pinsAt hb e)))).2.1
    cases f with
    | next => obtain ⟨σ7, H7, I7, n7⟩ := q7; exact again I7 n7
    | cont => obtain ⟨σ7, H7, I7, n7⟩ := q7; exact again I7 n7
    | brk => obtain ⟨σ7, H7, I7, q7⟩ := q7; exact ⟨σ7, H7, I7.unpinned, q7⟩
    | ret v => obtain ⟨x7, σ7, H7, I7, r7, q7⟩ := q7; exact ⟨x7, σ7, H7, I7.unpinned, r7, q7⟩
end
end L2
namespace L2
open PySem PySem.Spec PyProof.Rows
abbrev R2 := V → V → Hp → VK → Prop
def OpR (X : Cx) (f : Value → Value → Sem Value) (r : R2) : Prop :=
  ∀ (pins : List (Addr × Obj)) (s : Shared) (σ : St) (H : Hp) (x y : V) (v u : Value) (Q : VK), Inv X pins σ H s → RelV x v → RelV y u → r x y H Q →
    wpAny (model X.prog X.w) X.A (f v u) (EP X pins σ Q) X.xe s
def UnR (X : Cx) (f : Value → Sem Value) (r : V → Hp → VK → Prop) : Prop :=
  ∀ (pins : List (Addr × Obj)) (s : Shared) (σ : St) (H : Hp) (x : V) (v : Value) (Q : VK), Inv X pins σ H s → RelV x v → r x H Q →
    wpAny (model X.prog X.w) X.A (f v) (EP X pins σ Q) X.xe s
def CallR (X : Cx) (f : Value) (r : List V → Hp → VK → Prop) : Prop :=
  ∀ (pins : List (Addr × Obj)) (s : Shared) (σ : St) (H : Hp) (xs : List V) (us : List Value) (Q : VK), Inv X pins σ H s → Vals xs us → r xs H Q →
    wpAny (model X.prog X.w) X.A (call f us) (EP X pins σ Q) X.xe s
def TruR (X : Cx) (r : V → Hp → (Bool → Hp → Prop) → Prop) : Prop :=
  ∀ (pins : List (Addr × Obj)) (s : Shared) (σ : St) (H : Hp) (x : V) (v : Value) (Q : Bool → Hp → Prop), Inv X pins σ H s → RelV x v → r x H Q →
    wpAny (model X.prog X.w) X.A (truthy v) (TP X pins σ Q) X.xe s
def tOp (r : R2) (ta tb : TE) : TE := fun σ H Q => ta σ H fun x H1 => tb σ H1 fun y H2 => r x y H2 Q
def tUn (r : V → Hp → VK → Prop) (ta : TE) : TE := fun σ H Q => ta σ H fun x H1 => r x H1 Q
def rI (C : Int → Int → Prop) (g : Int → Int → V) : R2 := fun x y H Q => ∃ i j, x = .int i ∧ y = .int j ∧ C i j ∧ Q (g i j) H
def rI0 (g : Int → Int → V) : R2 := fun x y H Q => ∃ i j, x = .int i ∧ y = .int j ∧ Q (g i j) H
def rU (g : Int → V) : V → Hp → VK → Prop := fun x H Q => ∃ i, x = .int i ∧ Q (g i) H
section
variable {X : Cx} {a b c : Expr} {ta tb tc : TE} {pos : Pos}
theorem binT (ha : PE X a ta) (hb : PE X b tb) {pins : List (Addr × Obj)} {s : Shared} {σ : St} {H : Hp} {R : V → V → Hp → Prop} (I : Inv X pins σ H s)
    (h : ta σ H fun x H1 => tb σ H1 fun y H2 => R x y H2) {Q : Value → Shared → Prop} {f : Value → Value → Sem Value}
    (hf : ∀ v u s2 x y H2, Inv X pins σ H2 s2 → RelV x v → RelV y u → R x y H2 → wpAny (model X.prog X.w) X.A (f v u) Q X.xe s2) :
    wpAny (model X.prog X.w) X.A (eval a X.env) (fun v s₁ => wpAny (model X.prog X.w) X.A (eval b X.env) (fun u s₂ => wpAny (model X.prog X.w) X.A (f v u) Q X.xe s₂) X.xe s₁) X.xe s := by
  refine thn (ha pins s σ H _ I h) fun v s1 ⟨x, H1, I1, r1, q1⟩ => ?_
  refine thn (hb pins s1 σ H1 _ I1 q1) fun u s2 ⟨y, H2, I2, r2, q2⟩ => ?_
  exact hf v u s2 x y H2 I2 r1 r2 q2
theorem pe_op {op : Operator} {r : R2} (ho : OpR X (binaryOp op) r) (ha : PE X a ta) (hb : PE X b tb) : PE X (.BinOp a op b pos) (tOp r ta tb) := by
  intro pins s σ H Q I h
  exact wpAny_BinOp (binT ha hb I h fun v u s2 x y H2 I2 rx ry q => ho pins s2 σ H2 x y v u Q I2 rx ry q)
theorem pe_un {op : UnaryOp} {r : V → Hp → VK → Prop} (ho : UnR X (unaryOp op) r) (ha : PE X a ta) : PE X (.UnaryOp op a pos) (tUn r ta) := by
  intro pins s σ H Q I h
  exact UnaryOp_ (thn (ha pins s σ H _ I h) fun v s1 ⟨x, H1, I1, r1, q1⟩ => ho pins s1 σ H1 x v Q I1 r1 q1)
theorem opI {f : Value → Value → Sem Value} {C : Int → Int → Prop} {g : Int → Int → Int}
    (rule : ∀ (i j : Int) (t u : Tok) (s : Shared) (Q : Value → Shared → Prop) (E : Value → Shared → Prop), C i j → Q (.int (g i j) s.toks) { s with toks := s.toks + 1 } → wpAny (model X.prog X.w) X.A (f (.int i t) (.int j u)) Q E s) :
    OpR X f (rI C fun i j => .int (g i j)) := by
  intro pins s σ H x y v u Q I rx ry h
  obtain ⟨i, j, rfl, rfl, hc, q⟩ := h
  obtain ⟨t, rfl⟩ := rx
  obtain ⟨t', rfl⟩ := ry
  exact rule i j t t' s _ _ hc ⟨.int (g i j), H, I.tok _, ⟨_, rfl⟩, q⟩
theorem opI0 {f : Value → Value → Sem Value} {g : Int → Int → Int}
    (rule : ∀ (i j : Int) (t u : Tok) (s : Shared) (Q : Value → Shared → Prop) (E : Value → Shared → Prop), Q (.int (g i j) s.toks) { s with toks := s.toks + 1 } → wpAny (model X.prog X.w) X.A (f (.int i t) (.int j u)) Q E s) :
    OpR X f (rI0 fun i j => .int (g i j)) := by
  intro pins s σ H x y v u Q I rx ry h
  obtain ⟨i, j, rfl, rfl, q⟩ := h
  obtain ⟨t, rfl⟩ := rx
  obtain ⟨t', rfl⟩ := ry
  exact rule i j t t' s _ _ ⟨.int (g i j), H, I.tok _, ⟨_, rfl⟩, q⟩
theorem opB0 {f : Value → Value → Sem Value} {g : Int → Int → Bool}
    (rule : ∀ (i j : Int) (t u : Tok) (s : Shared) (Q : Value → Shared → Prop) (E : Value → Shared → Prop), Q (.bool (g i j)) s → wpAny (model X.prog X.w) X.A (f (.int i t) (.int j u)) Q E s) :
    OpR X f (rI0 fun i j => .bl (g i j)) := by
  intro pins s σ H x y v u Q I rx ry h
  obtain ⟨i, j, rfl, rfl, q⟩ := h
  obtain ⟨t, rfl⟩ := rx
  obtain ⟨t', rfl⟩ := ry
  exact rule i j t t' s _ _ ⟨.bl (g i j), H, I, rfl, q⟩
def CPow (i j : Int) : Prop := 0 ≤ j ∧ j ≤ 1000000 ∧ i.natAbs < 2 ^ 64
def CMul (i j : Int) : Prop := (-(2 ^ 64) < i ∧ i < 2 ^ 64) ∨ (-(2 ^ 64) < j ∧ j < 2 ^ 64)
theorem CMul.ok {i j : Int} (h : CMul i j) : IntMulOk i j := by
  rcases h with ⟨h1, h2⟩ | ⟨h1, h2⟩
  · exact .of_left (intBits_le_64 h1 h2)
  · exact .of_right (intBits_le_64 h1 h2)
theorem op_add : OpR X (binaryOp .Add) (rI0 fun i j => .int (i + j)) := opI0 fun _ _ _ _ _ _ _ q => add_int q
theorem op_sub : OpR X (binaryOp .Sub) (rI0 fun i j => .int (i - j)) := opI0 fun _ _ _ _ _ _ _ q => sub_int q
theorem op_mod : OpR X (binaryOp .Mod) (rI (fun _ j => 0 < j) fun i j => .int (i % j)) := opI fun i j _ _ _ _ _ hc q => by
  have h1 : (0 : Int) < j := hc
  exact mod_int' (by omega) (by rw [Int.fmod_eq_emod_of_nonneg i (by omega)]; exact q)
theorem op_pow : OpR X (binaryOp .Pow) (rI CPow fun i j => .int (i ^ j.toNat)) := opI fun _ _ _ _ _ _ _ hc q => pow_int_small hc.1 hc.2.1 hc.2.2 q
theorem unI {f : Value → Sem Value} {g : Int → Int}
    (rule : ∀ (i : Int) (t : Tok) (s : Shared) (Q : Value → Shared → Prop) (E : Value → Shared → Prop), Q (.int (g i) s.toks) { s with toks := s.toks + 1 } → wpAny (model X.prog X.w) X.A (f (.int i t)) Q E s) :
    UnR X f (rU fun i => .int (g i)) := by
  intro pins s σ H x v Q I rx h
  obtain ⟨i, rfl, q⟩ := h
  obtain ⟨t, rfl⟩ := rx
  exact rule i t s _ _ ⟨.int (g i), H, I.tok _, ⟨_, rfl⟩, q⟩
theorem un_neg : UnR X (unaryOp .USub) (rU fun i => .int (-i)) := unI fun _ _ _ _ _ q => neg_int q
end
def scal : V → V → Bool
  | .non, .non => true | .non, .int _ => true | .int _, .non => true | .non, .bl _ => true | .bl _, .non => true | .non, .str _ => true | .str _, .non => true
  | .int _, .int _ => true | .bl _, .bl _ => true | .str _, .str _ => true | .byt _, .byt _ => true
  | .int _, .str _ => true | .str _, .int _ => true | .bl _, .str _ => true | .str _, .bl _ => true
  | _, _ => false
def rEq : R2 := fun x y H Q => scal x y = true ∧ Q (.bl (decide (x = y))) H
def rNe : R2 := fun x y H Q => scal x y = true ∧ Q (.bl (!decide (x = y))) H
theorem dec_int {i j : Int} : decide (V.int i = V.int j) = (i == j) := by
  rw [Bool.eq_iff_iff]
  simp
theorem dec_bl {i j : Bool} : decide (V.bl i = V.bl j) = (i == j) := by
  rw [Bool.eq_iff_iff]
  simp
theorem dec_str {i j : Str} : decide (V.str i = V.str j) = (i == j) := by
  rw [Bool.eq_iff_iff]
  simp
theorem dec_byt {i j : Array UInt8} : decide (V.byt i = V.byt j) = (i.toList == j.toList) := by
  rw [Bool.eq_iff_iff]
  cases i
  cases j
  simp
section
variable {X : Cx} {a b c : Expr} {ta tb tc : TE} {pos : Pos}
theorem fin_bl {pins : List (Addr × Obj)} {σ : St} {H : Hp} {s : Shared} {Q : VK} {k k' : Bool} (I : Inv X pins σ H s) (q : Q (.bl k) H) (e : k = k') : EP X pins σ Q (.bool k') s := by
  subst e
  exact ⟨.bl k, H, I, rfl, q⟩
theorem op_eq : OpR X (compareOp .Eq) rEq := by
  intro pins s σ H x y v u Q I rx ry h
  obtain ⟨hs, q⟩ := h
  cases x with
  | non =>
    cases rx
    cases y with
    | non => cases ry; exact PySem.EqNone.eq_none_none (fin_bl I q (by simp))
    | bl j => cases ry; exact PySem.EqNone.eq_none_bool (fin_bl I q (by simp))
    | int j => obtain ⟨t', rfl⟩ := ry; exact PySem.EqNone.eq_none_int (fin_bl I q (by simp))
    | str j => obtain ⟨t', rfl⟩ := ry; exact PySem.EqNone.eq_none_str (fin_bl I q (by simp))
    | _ => exact absurd (show false = true from hs) Bool.false_ne_true
  | bl i =>
    cases rx
    cases y with
    | non => cases ry; exact PySem.EqNone.eq_bool_none (fin_bl I q (by simp))
    | bl j => cases ry; exact eq_bool (fin_bl I q dec_bl)
    | str j => obtain ⟨t', rfl⟩ := ry; exact PySem.EqMixed.eq_bool_str (fin_bl I q (by simp))
    | _ => exact absurd (show false = true from hs) Bool.false_ne_true
  | int i =>
    obtain ⟨t, rfl⟩ := rx
    cases y with
    | non => cases ry; exact PySem.EqNone.eq_int_none (fin_bl I q (by simp))
    | int j => obtain ⟨t', rfl⟩ := ry; exact eq_int (fin_bl I q dec_int)
    | str j => obtain ⟨t', rfl⟩ := ry; exact PySem.EqMixed.eq_int_str (fin_bl I q (by simp))
    | _ => exact absurd (show false = true from hs) Bool.false_ne_true
  | str i =>
    obtain ⟨t, rfl⟩ := rx
    cases y with
    | non => cases ry; exact PySem.EqNone.eq_str_none (fin_bl I q (by simp))
    | bl j => cases ry; exact PySem.EqMixed.eq_str_bool (fin_bl I q (by simp))
    | int j => obtain ⟨t', rfl⟩ := ry; exact PySem.EqMixed.eq_str_int (fin_bl I q (by simp))
    | str j => obtain ⟨t', rfl⟩ := ry; exact eq_str (fin_bl I q dec_str)
    | _ => exact absurd (show false = true from hs) Bool.false_ne_true
  | byt i =>
    obtain ⟨t, rfl⟩ := rx
    cases y with
    | byt j => obtain ⟨t', rfl⟩ := ry; exact PySem.W.eq_bytes (fin_bl I q dec_byt)
    | _ => exact absurd (show false = true from hs) Bool.false_ne_true
  | _ => cases y <;> exact absurd (show false = true from hs) Bool.false_ne_true
theorem op_ne : OpR X (compareOp .NotEq) rNe := by
  intro pins s σ H x y v u Q I rx ry h
  obtain ⟨hs, q⟩ := h
  cases x with
  | non =>
    cases rx
    cases y with
    | non => cases ry; exact PySem.EqNone.ne_none_none (fin_bl I q (by simp))
    | bl j => cases ry; exact PySem.EqNone.ne_none_bool (fin_bl I q (by simp))
    | int j => obtain ⟨t', rfl⟩ := ry; exact PySem.EqNone.ne_none_int (fin_bl I q (by simp))
    | str j => obtain ⟨t', rfl⟩ := ry; exact PySem.EqNone.ne_none_str (fin_bl I q (by simp))
    | _ => exact absurd (show false = true from hs) Bool.false_ne_true
  | bl i =>
    cases rx
    cases y with
    | non => cases ry; exact PySem.EqNone.ne_bool_none (fin_bl I q (by simp))
    | bl j => cases ry; exact ne_bool (fin_bl I q (congrArg not dec_bl))
    | str j => obtain ⟨t', rfl⟩ := ry; exact PySem.EqMixed.ne_bool_str (fin_bl I q (by simp))
    | _ => exact absurd (show false = true from hs) Bool.false_ne_true
  | int i =>
    obtain ⟨t, rfl⟩ := rx
    cases y with
    | non => cases ry; exact PySem.EqNone.ne_int_none (fin_bl I q (by simp))
    | int j => obtain ⟨t', rfl⟩ := ry; exact ne_int (fin_bl I q (congrArg not dec_int))
    | str j => obtain ⟨t', rfl⟩ := ry; exact PySem.EqMixed.ne_int_str (fin_bl I q (by simp))
    | _ => exact absurd (show false = true from hs) Bool.false_ne_true
  | str i =>
    obtain ⟨t, rfl⟩ := rx
    cases y with
    | non => cases ry; exact PySem.EqNone.ne_str_none (fin_bl I q (by simp))
    | bl j => cases ry; exact PySem.EqMixed.ne_str_bool (fin_bl I q (by simp))
    | int j => obtain ⟨t', rfl⟩ := ry; exact PySem.EqMixed.ne_str_int (fin_bl I q (by simp))
    | str j => obtain ⟨t', rfl⟩ := ry; exact ne_str (fin_bl I q (congrArg not dec_str))
    | _ => exact absurd (show false = true from hs) Bool.false_ne_true
  | byt i =>
    obtain ⟨t, rfl⟩ := rx
    cases y with
    | byt j => obtain ⟨t', rfl⟩ := ry; exact PySem.W.ne_bytes (fin_bl I q (congrArg not dec_byt))
    | _ => exact absurd (show false = true from hs) Bool.false_ne_true
  | _ => cases y <;> exact absurd (show false = true from hs) Bool.false_ne_true
theorem op_lt : OpR X (compareOp .Lt) (rI0 fun i j => .bl (decide (i < j))) := opB0 fun _ _ _ _ _ _ _ q => lt_int q
theorem nomark (b : Expr) {op : CmpOp} (h : op ≠ .In := by decide) (h2 : op ≠ .NotIn := by decide) : behindInMarks op b = false := by
  have e1 : (op == CmpOp.In) = false := by cases op <;> first | rfl | exact absurd rfl h
  have e2 : (op == CmpOp.NotIn) = false := by cases op <;> first | rfl | exact absurd rfl h2
  cases b <;> simp [behindInMarks, e1, e2]
theorem pe_cmpR {op : CmpOp} {r : R2} (ho : OpR X (compareOp op) r) (ha : PE X a ta) (hb : PE X b tb) (hm : behindInMarks op b = false) : PE X (.Compare a [op] [b] pos) (tOp r ta tb) := by
  intro pins s σ H Q I h
  exact wpAny_Compare1 (binT ha hb I h fun v u s2 x y H2 I2 rx ry q => ho pins s2 σ H2 x y v u Q I2 rx ry q) hm
def tTest (t : TE) : TT := fun σ H Q => t σ H fun x H' => ∃ k, x = .bl k ∧ Q k H'
theorem pt_cmpR {op : CmpOp} {r : R2} (ho : OpR X (compareOp op) r) (ha : PE X a ta) (hb : PE X b tb) (hm : behindInMarks op b = false) : PT X (.Compare a [op] [b] pos) (tTest (tOp r ta tb)) := by
  intro pins s σ H Q I h
  refine wpAny_isTrue_Compare1 (thn (ha pins s σ H _ I h) fun v s1 ⟨x, H1, I1, r1, q1⟩ => thn (hb pins s1 σ H1 _ I1 q1) fun u s2 ⟨y, H2, I2, r2, q2⟩ =>
    thn (ho pins s2 σ H2 x y v u _ I2 r1 r2 q2) fun c s3 ⟨z, H3, I3, r3, k, e, q3⟩ => ?_) hm
  subst e
  cases r3
  exact wpAny_truthy_bool ⟨H3, I3, q3⟩
def TruV (K : PySem.W.Frag) (x : V) (H : Hp) (k : Bool) : Prop :=
  match x with
  | .non => k = false
  | .bl b => k = b
  | .int i => k = (i != 0)
  | .str y => y.length ≤ sizeLine ∧ k = ((y.length : Int) != 0)
  | .byt y => y.size ≤ sizeLine ∧ k = ((y.size : Int) != 0)
  | .ref p => (∃ xs, SqL K H p xs ∧ k = !xs.isEmpty) ∨ (∃ xs, SqT K H p xs ∧ k = !xs.isEmpty) ∨ ∃ kvs, H p = some (.dK kvs) ∧ k = !kvs.isEmpty
  | _ => False
theorem isEmpty_kv {κ : Type} {kvs : List (κ × V)} {vs : List (κ × Value)} (r : KV kvs vs) : (!vs.isEmpty) = !kvs.isEmpty := by
  cases r <;> rfl
theorem isEmpty_of {xs : List V} {its : List Value} (r : Vals xs its) : (!its.toArray.isEmpty) = !xs.isEmpty := by
  cases r <;> simp
theorem line63 : (sizeLine : Nat) < 2 ^ 63 := by rw [sizeLine_eq]; decide
theorem tru_ok : TruR X (fun x H Q => ∃ k, TruV X.K x H k ∧ Q k H) := by
  intro pins s σ H x v Q I rx h
  obtain ⟨k, e, q⟩ := h
  have hl := line63
  have hs : sizeLine = 16777216 := sizeLine_eq
  cases x with
  | non =>
    cases rx
    have e' : k = false := e
    subst e'
    exact truthy_none ⟨H, I, q⟩
  | bl b =>
    cases rx
    have e' : k = b := e
    subst e'
    exact wpAny_truthy_bool ⟨H, I, q⟩
  | int i =>
    obtain ⟨t, rfl⟩ := rx
    have e' : k = (i != 0) := e
    subst e'
    exact PySem.P.truthy_int ⟨H, I, q⟩
  | str y =>
    obtain ⟨t, rfl⟩ := rx
    obtain ⟨hy, e'⟩ : y.length ≤ sizeLine ∧ k = ((y.length : Int) != 0) := e
    subst e'
    exact PySem.P.truthy_str (by omega) ⟨H, I.tok _, q⟩
  | byt y =>
    obtain ⟨t, rfl⟩ := rx
    obtain ⟨hy, e'⟩ : y.size ≤ sizeLine ∧ k = ((y.size : Int) != 0) := e
    subst e'
    exact PySem.W.truthy_bytes (by omega) ⟨H, I.tok _, q⟩
  | ref p =>
    cases rx
    have e' : (∃ xs, SqL X.K H p xs ∧ k = !xs.isEmpty) ∨ (∃ xs, SqT X.K H p xs ∧ k = !xs.isEmpty) ∨ ∃ kvs, H p = some (.dK kvs) ∧ k = !kvs.isEmpty := e
    rcases e' with ⟨xs, hx, e'⟩ | ⟨xs, hx, e'⟩ | ⟨kvs, hx, e'⟩
    · subst e'
      obtain ⟨its, r, pl, hz⟩ := I.list hx
      have hlen := r.length
      exact wpAny_truthy_list pl.isList (by simp only [List.size_toArray]; omega) ⟨H, I.tok _, by rw [isEmpty_of r]; exact q⟩
    · subst e'
      obtain ⟨its, r, pl, hz⟩ := I.tuple hx
      have hlen := r.length
      exact truthy_tuple pl (by simp only [List.size_toArray]; omega) ⟨H, I.tok _, by rw [isEmpty_of r]; exact q⟩
    · subst e'
      obtain ⟨hz, hS, vs, r, m⟩ : kvs.length ≤ sizeLine ∧ (p == sysModules) = false ∧ ∃ vs, KV kvs vs ∧ s.heap.DictOf (mixKind X.prog X.w) p vs := I.hok p _ hx
      have hlen : kvs.length = vs.length := Paired.length r
      exact wpAny_truthy_dict hS m (by omega) ⟨H, I.tok _, by rw [isEmpty_kv r]; exact q⟩
  | _ => exact (show False from e).elim
theorem pt_truth (ha : PE X a ta) (he : ∀ whole, isTrue a X.env whole = (do let v ← whole; standAt a.pos; holding [v] (truthy v))) :
    PT X a (fun σ H Q => ta σ H fun x H' => ∃ k, TruV X.K x H' k ∧ Q k H') := by
  intro pins s σ H Q I h
  exact isTrue_plain (thn (ha pins s σ H _ I h) fun v s1 ⟨x, H1, I1, r1, q1⟩ => tru_ok pins s1 σ H1 x v Q I1 r1 q1) (he _)
theorem vals1 {x : V} {us : List Value} (r : Vals [x] us) : ∃ u, us = [u] ∧ RelV x u := by
  cases r with
  | cons r1 r2 => cases r2; exact ⟨_, rfl, r1⟩
theorem vals2 {x y : V} {us : List Value} (r : Vals [x, y] us) : ∃ u w', us = [u, w'] ∧ RelV x u ∧ RelV y w' := by
  cases r with
  | cons r1 r2 =>
    cases r2 with
    | cons r3 r4 => cases r4; exact ⟨_, _, rfl, r1, r3⟩
theorem call_max2 (hc : X.calm = true) : CallR X (.builtin "max") (fun xs H Q => ∃ i j, xs = [.int i, .int j] ∧ Q (.int (if j > i then j else i)) H) := by
  intro pins s σ H xs us Q I r h
  obtain ⟨i, j, rfl, q⟩ := h
  obtain ⟨u, w', rfl, ⟨t, rfl⟩, ⟨t', rfl⟩⟩ := vals2 r
  refine max_two_ints (I.ok.hd hc) fun h' tk k => ⟨_, H, I.kept k, ?_, q⟩
  by_cases hj : j > i
  · rw [if_pos hj, if_pos hj]; exact ⟨_, rfl⟩
  · rw [if_neg hj, if_neg hj]; exact ⟨_, rfl⟩
theorem call_int1 : CallR X (.type "int") (fun xs H Q => (∃ i, xs = [.int i] ∧ Q (.int i) H) ∨ ∃ k, xs = [.bl k] ∧ Q (.int (if k then 1 else 0)) H) := by
  intro pins s σ H xs us Q I r h
  rcases h with ⟨i, rfl, q⟩ | ⟨k, rfl, q⟩
  · obtain ⟨u, rfl, t, rfl⟩ := vals1 r
    exact call_int_int ⟨.int i, H, I, ⟨_, rfl⟩, q⟩
  · obtain ⟨u, rfl, r1⟩ := vals1 r
    cases r1
    exact call_int_bool ⟨.int (if k then 1 else 0), H, I.tok _, ⟨_, rfl⟩, q⟩
def LenV (K : PySem.W.Frag) (x : V) (H : Hp) (n : Nat) : Prop :=
  match x with
  | .str y => y.length ≤ sizeLine ∧ n = y.length
  | .byt y => y.size ≤ sizeLine ∧ n = y.size
  | .ref p => (∃ xs, SqL K H p xs ∧ n = xs.length) ∨ ∃ xs, SqT K H p xs ∧ n = xs.length
  | _ => False
theorem call_len : CallR X (.builtin "len") (fun xs H Q => ∃ x n, xs = [x] ∧ LenV X.K x H n ∧ Q (.int n) H) := by
  intro pins s σ H xs us Q I r h
  obtain ⟨x, n, rfl, e, q⟩ := h
  obtain ⟨u, rfl, rx⟩ := vals1 r
  have hl := line63
  have hs : sizeLine = 16777216 := sizeLine_eq
  cases x with
  | str y =>
    obtain ⟨t, rfl⟩ := rx
    obtain ⟨hy, e'⟩ : y.length ≤ sizeLine ∧ n = y.length := e
    subst e'
    exact len_str (by omega) ⟨.int _, H, I.tok _, ⟨_, rfl⟩, q⟩
  | byt y =>
    obtain ⟨t, rfl⟩ := rx
    obtain ⟨hy, e'⟩ : y.size ≤ sizeLine ∧ n = y.size := e
    subst e'
    exact PySem.W.len_bytes (by omega) ⟨.int _, H, I.tok _, ⟨_, rfl⟩, q⟩
  | ref p =>
    cases rx
    have e' : (∃ xs, SqL X.K H p xs ∧ n = xs.length) ∨ ∃ xs, SqT X.K H p xs ∧ n = xs.length := e
    rcases e' with ⟨xs, hx, e'⟩ | ⟨xs, hx, e'⟩
    · subst e'
      obtain ⟨its, r', pl, hz⟩ := I.list hx
      have hlen := r'.length
      exact Calls.call_len_list pl.isList (by simp only [List.size_toArray]; omega) ⟨.int xs.length, H, I.tok _, ⟨_, by simp only [List.size_toArray]; rw [hlen]⟩, q⟩
    · subst e'
      obtain ⟨its, r', pl, hz⟩ := I.tuple hx
      have hlen := r'.length
      exact len_tuple pl (by simp only [List.size_toArray]; omega) ⟨.int xs.length, H, I.tok _, ⟨_, by simp only [List.size_toArray]; rw [hlen]⟩, q⟩
  | _ => exact (show False from e).elim
end
end L2
namespace L2
open PySem PySem.Spec PyProof.Rows
structure ObjM (h : Heap) (x dx C : Addr) (mA : Str → Option Value) : Prop where
  obj : h.get? x = some (PySem.W.instObj C dx)
  ns : h.Ns1 dx mA
  ne : dx ≠ x
theorem lookIn_ns {h : Heap} {dx : Addr} {mA : Str → Option Value} (n : h.Ns1 dx mA) : ∃ od, h.get? dx = some od ∧ ∀ name, PySem.W.lookIn name od = some (mA name) := by
  obtain ⟨o, es, ep, ho, hd, hk, _, hm⟩ := n
  refine ⟨o, ho, fun name => ?_⟩
  have e := hm name
  unfold nsFind findBy at e
  rw [← Array.find?_toList] at e
  unfold PySem.W.lookIn
  rw [hd]
  dsimp only
  split
  · rename_i y q
    rw [q] at e
    exact congrArg some e
  · rename_i q
    rw [q] at e
    have a : es.toList.any (·.refKey) = false := by
      rw [List.any_eq_false]
      intro y hy
      obtain ⟨z, t, hkey⟩ := hk y (Array.mem_toList_iff.mp hy)
      simp [DictEntry.refKey, hkey]
    have a' : ¬ es.toList.any (·.refKey) = true := by rw [a]; exact Bool.false_ne_true
    rw [if_neg a']
    exact congrArg some e
theorem ObjM.look {h : Heap} {x dx C : Addr} {mA : Str → Option Value} (I : ObjM h x dx C mA) : ∃ od, PySem.W.InstAt h x (PySem.W.instObj C dx) C (some od) ∧ ∀ name, PySem.W.lookIn name od = some (mA name) :=
  let ⟨od, ho, hl⟩ := lookIn_ns I.ns
  ⟨od, ⟨I.obj, rfl, rfl, ho⟩, hl⟩
section
variable {prog : Program} {w : World} {A : Around} {E : Value → Shared → Prop} {s : Shared} {K : PySem.W.Frag} {x dx C f : Addr} {mA : Str → Option Value} {name : Str} {v : Value}
end
section
variable {P : Program} {w : World} {H H' : Hp} {h h' : Heap} {a C dx : Addr} {fs fs' : List (Str × V)}
theorem ins_get (hok : HOk P w H h) (e : H a = some (.ins C dx fs)) : ∃ mA, ObjM h a dx C mA ∧ (∀ f, RelO (fs.lookup f) (mA f)) ∧ PySem.Within mA (fs.map (·.1)) ∧ fs.length ≤ 1000 ∧ H dx = some (.own a) := by
  obtain ⟨d, z, ne, ob, mA, n, r, q⟩ := (show ObjOk P w H h a (.ins C dx fs) from hok a _ e)
  exact ⟨mA, ⟨ob, n, ne⟩, r, q, z, d⟩
end
structure Cls (K : PySem.W.Frag) (C : Addr) : Prop where
  pg : PySem.W.plainGet K C Str.empty = true
  hd : PySem.W.hasDictIn K C = true
  po : PySem.W.plainOver K C = true
  sa : PySem.W.findIn K (.ref C) "__setattr__" = some (some (.builtin "object.__setattr__"))
theorem Cls.get {K : PySem.W.Frag} {C : Addr} (c : Cls K C) (f : Str) : PySem.W.plainGet K C f = true := c.pg
structure Con (K : PySem.W.Frag) (C : Addr) (f : Str) (v : V) (u : Value) : Prop where
  at_ : PySem.W.findIn K (.ref C) f = some (some u)
  rel : RelV v u
  get : PySem.W.specialIn K u "__get__" = some none
  cp : PySem.W.copiedNames.contains f = false
structure Meth (K : PySem.W.Frag) (C : Addr) (m : Str) (f : Addr) : Prop where
  at_ : PySem.W.findIn K (.ref C) m = some (some (.ref f))
  fn : PySem.W.isFn K (.ref f) = true
  kp : PySem.W.keepIn K (.ref f) = true
section
variable {X : Cx} {pins : List (Addr × Obj)} {σ : St} {H : Hp} {s : Shared} {a C dx : Addr} {fs : List (Str × V)} {f : Str} {v : V} {A : Around} {E : Value → Shared → Prop}
end
section
variable {X : Cx} {o e value : Expr} {f : Str} {pos pos' tpos : Pos} {ta tv : TE}
end
section
variable {X : Cx} {pins : List (Addr × Obj)} {σ : St} {H : Hp} {s : Shared} {A : Around} {E : Value → Shared → Prop} {Q : Value → Shared → Prop} {c : Value} {b : Bool}
inductive TyOf (K : PySem.W.Frag) (H : Hp) : V → Value → Prop where
  | non : TyOf K H .non (.type "NoneType")
  | bl (x : Bool) : TyOf K H (.bl x) (.type "bool")
  | int (i : Int) : TyOf K H (.int i) (.type "int")
  | str (x : Str) : TyOf K H (.str x) (.type "str")
  | flt (x : UInt64) : TyOf K H (.flt x) (.type "float")
  | lst {a : Addr} {xs : List V} (e : H a = some (.lst xs)) : TyOf K H (.ref a) (.type "list")
  | frz {a : Addr} {o : Obj} {xs : List V} (e : H a = some (.frz o (.lst xs))) : TyOf K H (.ref a) (.type "list")
  | tup {a : Addr} {xs : List V} (e : H a = some (.tup xs)) : TyOf K H (.ref a) (.type "tuple")
  | dK {a : Addr} {kvs : List (Key × V)} (e : H a = some (.dK kvs)) : TyOf K H (.ref a) (.type "dict")
  | dT {a : Addr} {kvs : List (List Key × V)} (e : H a = some (.dT kvs)) : TyOf K H (.ref a) (.type "dict")
  | ins {a C dx : Addr} {fs : List (Str × V)} (e : H a = some (.ins C dx fs)) (cl : Cls K C) (ha : PySem.W.findIn K (.ref C) "__class__" = some (some (.builtin "object.__class__")))
      (hn : PySem.W.specialIn K (.builtin "object.__class__") "__get__" = some (some (.builtin "getset_descriptor.__get__"))) (htk : PySem.W.takesIn K (.builtin "object.__class__") = some true)
      (hm : PySem.W.mroIn K C (.type "object") = some true) : TyOf K H (.ref a) (.ref C)
theorem isinst_ok {x : V} {u t : Value} (I : Inv X pins σ H s) (rx : RelV x u) (ty : TyOf X.K H x t) (e : PySem.W.kitOne X.K t c = some b) (h : ∀ tk, Q (.bool b) { s with toks := tk }) :
    wpAny (model X.prog X.w) A (call (.builtin "isinstance") [u, c]) Q E s := by
  cases ty with
  | non => cases (show u = Value.none from rx); exact PySem.W.kia_one PySem.W.kitx_none I.kIn True.intro e (fun z => nomatch z) h
  | bl y => cases (show u = Value.bool y from rx); exact PySem.W.kia_one PySem.W.kitx_bool I.kIn True.intro e (fun z => nomatch z) h
  | int i => obtain ⟨t, q⟩ := (show ∃ t, u = Value.int i t from rx); cases q; exact PySem.W.kia_one PySem.W.kitx_int I.kIn True.intro e (fun z => nomatch z) h
  | str y => obtain ⟨t, q⟩ := (show ∃ t, u = Value.str y t from rx); cases q; exact PySem.W.kia_one PySem.W.kitx_str I.kIn True.intro e (fun z => nomatch z) h
  | flt y => obtain ⟨t, q⟩ := (show ∃ t, u = Value.float y t from rx); cases q; exact PySem.W.kia_one PySem.W.kitx_float I.kIn True.intro e (fun z => nomatch z) h
  | @lst a xs ea =>
    cases (show u = Value.ref a from rx)
    obtain ⟨_, _, n, _, h1⟩ := (show ObjOk X.prog X.w H s.heap a (.lst xs) from I.hok a _ ea)
    exact PySem.W.kia_one PySem.W.kitx_list I.kIn ⟨_, h1, rfl⟩ e (fun z => nomatch z) h
  | @frz a ob xs ea =>
    cases (show u = Value.ref a from rx)
    obtain ⟨_, _, _, n, _, h1⟩ := (show ObjOk X.prog X.w H s.heap a (.frz ob (.lst xs)) from I.hok a _ ea)
    exact PySem.W.kia_one PySem.W.kitx_list I.kIn ⟨_, h1, rfl⟩ e (fun z => nomatch z) h
  | @tup a xs ea =>
    cases (show u = Value.ref a from rx)
    obtain ⟨_, _, _, p⟩ := (show ObjOk X.prog X.w H s.heap a (.tup xs) from I.hok a _ ea)
    obtain ⟨o, h1, h2, _⟩ := p
    exact PySem.W.kia_one PySem.W.kitx_tuple I.kIn ⟨o, h1, h2⟩ e (fun z => nomatch z) h
  | @dK a kvs ea =>
    cases (show u = Value.ref a from rx)
    obtain ⟨_, _, vs, _, p⟩ := (show ObjOk X.prog X.w H s.heap a (.dK kvs) from I.hok a _ ea)
    obtain ⟨o, es, ep, h1, h2, _⟩ := p
    exact PySem.W.kia_one PySem.W.kitx_dict I.kIn ⟨o, h1, h2.1⟩ e (fun z => nomatch z) h
  | @dT a kvs ea =>
    cases (show u = Value.ref a from rx)
    obtain ⟨_, _, xs, _, o, es, ep, h1, h2, _⟩ := (show ObjOk X.prog X.w H s.heap a (.dT kvs) from I.hok a _ ea)
    exact PySem.W.kia_one PySem.W.kitx_dict I.kIn ⟨o, h1, h2.1⟩ e (fun z => nomatch z) h
  | @ins a C dx fs ea cl ha hn htk hm =>
    cases (show u = Value.ref a from rx)
    obtain ⟨mA, O, _⟩ := ins_get I.hok ea
    obtain ⟨od, J, _⟩ := O.look
    exact PySem.W.kia_one (PySem.W.kitx_own (cl.get _) cl.hd ha hn htk hm) I.kIn J e (fun z => nomatch z) h
end
end L2
namespace L2
open PySem PySem.Spec PyProof.Rows
structure Room (k : Nat) (A : Around) : Prop where
  hd : A.handled = none
  dp : A.depth + 3 * k + 5 < recursionLimit
  un : A.units + 16 * k + 200 < cLine
theorem Room.mono {j k : Nat} {A : Around} (r : Room k A) (h : j ≤ k) : Room j A := ⟨r.hd, by have := r.dp; omega, by have := r.un; omega⟩
theorem Room.deeper {k : Nat} {A : Around} (r : Room (k + 1) A) (env : Env) : Room k (A.deeper env) :=
  ⟨r.hd, by have := r.dp; show A.depth + 1 + 3 * k + 5 < _; omega, by have := r.un; show A.units + 3 + 16 * k + 200 < _; omega⟩
theorem Room.depth {k : Nat} {A : Around} (r : Room k A) : A.depth < recursionLimit := by have := r.dp; omega
theorem Room.units {k : Nat} {A : Around} (r : Room k A) : A.units + 64 < cLine := by have := r.un; omega
def tNil : TA := fun _ H Q => Q [] H
def tCons (ta : TE) (tr : TA) : TA := fun σ H Q => ta σ H fun x H1 => tr σ H1 fun xs H2 => Q (x :: xs) H2
section
variable {X : Cx} {e : Expr} {es : List Expr} {te : TE} {t : TA} {pos : Pos}
theorem pa_nil : PA X [] tNil := fun _ _ _ _ H Q I h => Calls.spliced_nil ⟨[], H, I, .nil, h⟩
theorem pa_cons (ha : PE X e te) (hr : PA X es t) (hs : starEach (e :: es) X.env = (false, eval e X.env) :: starEach es X.env := by rfl) : PA X (e :: es) (tCons te t) := by
  intro pos pins s σ H Q I h
  rw [hs]
  show wpAny _ _ (spliced ((false, eval e X.env) :: backTo pos (starEach es X.env))) _ _ s
  refine Calls.spliced_cons (thn (ha pins s σ H _ I h) fun u s1 ⟨x, H1, I1, r1, q1⟩ => ?_)
  exact thn (hr pos pins s1 σ H1 _ I1 q1) fun us s2 ⟨xs, H2, I2, r2, q2⟩ => ⟨x :: xs, H2, I2, .cons r1 r2, q2⟩
def tTup (t : TA) : TE := fun σ H Q => t σ H fun xs H1 => xs.length ≤ sizeLine ∧ ∀ p, H1 p = none → Q (.ref p) (upd H1 p (.tup xs))
def tLst (t : TA) : TE := fun σ H Q => t σ H fun xs H1 => xs.length ≤ sizeLine ∧ ∀ p, H1 p = none → Q (.ref p) (upd H1 p (.lst xs))
theorem pe_tup {x1} (h : PA X es t) : PE X (.Tuple es x1 pos) (tTup t) := by
  intro pins s σ H Q I hq
  refine wpAny_Tuple_spliced (thn (h pos pins s σ H _ I hq) fun us s1 ⟨xs, H1, I1, r, z, q⟩ => ⟨by rw [← r.length]; exact z, ?_⟩)
  have hf : H1 s1.heap.objs.size = none := I1.hok.fresh (Nat.le_refl _)
  refine ⟨.ref s1.heap.objs.size, upd H1 s1.heap.objs.size (.tup xs), I1.laid (t' := s1.toks) (fun b u e => Heap.get?_push_of_some _ e) (Nat.le_refl _) ?_, rfl, q _ hf⟩
  exact ⟨z, us, r, ⟨_, Heap.get?_push_size _ rfl, rfl, _, rfl⟩⟩
theorem pe_lst (h : PA X es t) : PE X (.List es pos) (tLst t) := by
  intro pins s σ H Q I hq
  refine wpAny_List_spliced (thn (h pos pins s σ H _ I hq) fun us s1 ⟨xs, H1, I1, r, z, q⟩ => ⟨by rw [← r.length]; exact z, ?_⟩)
  have hf : H1 s1.heap.objs.size = none := I1.hok.fresh (Nat.le_refl _)
  refine ⟨.ref s1.heap.objs.size, upd H1 s1.heap.objs.size (.lst xs), I1.laid (t' := s1.toks) (fun b u e => Heap.get?_push_of_some _ e) (Nat.le_refl _) ?_, rfl, q _ hf⟩
  exact ⟨z, us, 0, r, Heap.get?_push_size _ rfl⟩
end
abbrev Sp := List V → Hp → VK → XK → Prop
abbrev CXT := List Env → Hp → Shared → XK → Value → Shared → Prop
structure Env0 (P : Program) (w : World) (K : PySem.W.Frag) (mg : Str → Option Value) (base : Heap) (A : Around) (outer : List Env) (s : Shared) (H : Hp) : Prop where
  frames : A.frames = some outer
  mod : Mod K mg base
  bs : ∀ b o, base.get? b = some o → s.heap.get? b = some o ∧ H b = none
  bsz : base.objs.size ≤ s.heap.objs.size
  funs : s.heap.FunFrames base outer
  frf : ∀ b ∈ frs outer, H b = none
  hok : HOk P w H s.heap
  bare : AllBare s.gens
def CE (outer : List Env) (P : Program) (w : World) (H : Hp) (s : Shared) (Q : VK) (u : Value) (s' : Shared) : Prop :=
  ∃ v H', s'.os = s.os ∧ AllBare s'.gens ∧ Un (frs outer) [] H H' s.heap s'.heap ∧ HOk P w H' s'.heap ∧ RelV v u ∧ Q v H'
def CR (CX : CXT) (outer : List Env) (P : Program) (w : World) (H : Hp) (s : Shared) (Q : VK) (E : XK) (r : Result) (s' : Shared) : Prop :=
  match r with
  | .ok (.ret u) => CE outer P w H s Q u s'
  | .ok _ => False
  | .error e => CX outer H s E e s'
structure FnOk (P : Program) (w : World) (K : PySem.W.Frag) (mg : Str → Option Value) (base : Heap) (CX : CXT) (k : Nat) (f : Addr) (fd : FuncData) (ps : List Str) (sp : Sp) : Prop where
  len : ∀ vs H Q E, sp vs H Q E → vs.length = ps.length
  run : ∀ (A : Around) (outer : List Env) (s : Shared) (H : Hp) (args : Args) (us : List Value) (vs : List V) (Q : VK) (E : XK), Room k A → Env0 P w K mg base A outer s H → BindsTo s fd args (ps.zip us) → Vals vs us → sp vs H Q E →
    codeAny (model P w) A (.call (.ref f) args) (CR CX outer P w H s Q E) s
theorem FnOk.imp {P : Program} {w : World} {K : PySem.W.Frag} {mg : Str → Option Value} {base : Heap} {CX : CXT} {k : Nat} {f : Addr} {fd : FuncData} {ps : List Str} {sp sp' : Sp} (F : FnOk P w K mg base CX k f fd ps sp)
    (h : ∀ vs H Q E, sp' vs H Q E → sp vs H Q E) : FnOk P w K mg base CX k f fd ps sp' :=
  ⟨fun vs H Q E q => F.len vs H Q E (h _ _ _ _ q), fun A outer s H args us vs Q E hr he hb hv hs => F.run A outer s H args us vs Q E hr he hb hv (h _ _ _ _ hs)⟩
section
variable {X : Cx} {pins : List (Addr × Obj)} {σ : St} {H : Hp} {s s' : Shared}
theorem Inv.env0 (I : Inv X pins σ H s) : Env0 X.prog X.w X.K X.mg X.base X.A X.stack s H :=
  ⟨I.ok.frames, I.ok.mod, I.bs, Nat.le_trans I.ok.bsz I.sz, I.stack, I.stkFree, I.hok, I.bare⟩
theorem Inv.after {Q : VK} {u : Value} (I : Inv X pins σ H s) (h : CE X.stack X.prog X.w H s Q u s') : EP X pins σ Q u s' := by
  obtain ⟨v, H', os, bare, un, hok, r, q⟩ := h
  obtain ⟨hh, g, d, t, os'⟩ := s'
  obtain rfl : os' = s.os := os
  exact ⟨v, H', I.call (h' := hh) (g' := g) (d' := d) (t' := t) (ch := []) un hok bare (fun b z => absurd z (by simp)), r, q⟩
end
def tCall (sp : Sp) (dvs : List V) (E : XK) (t : TA) : TE := fun σ H Q => t σ H fun vs H1 => sp (vs ++ dvs) H1 Q E
def Binds (K : PySem.W.Frag) (fd : FuncData) (ps : List Str) (ds : List Value) : Prop :=
  ∀ (s : Shared) (us : List Value), K.In s.heap → (us ++ ds).length = ps.length → BindsTo s fd ⟨us, []⟩ (ps.zip (us ++ ds))
theorem Binds.all {K : PySem.W.Frag} {fd : FuncData} {ps : List Str} (h : ∀ us : List Value, us.length = ps.length → bindArgs fd ⟨us, []⟩ = pure (ps.zip us)) : Binds K fd ps [] := fun s us _ hl => by
  rw [List.append_nil] at hl ⊢
  exact .of_eq (h us hl)
def Passes (CX : CXT) (X : Cx) (E : XK) : Prop := ∀ (pins : List (Addr × Obj)) (σ : St) (H : Hp) (s : Shared) (e : Value) (s' : Shared), Inv X pins σ H s → CX X.stack H s E e s' → X.xe e s'
section
variable {X : Cx} {CX : CXT} {k : Nat} {f C : Addr} {fd : FuncData} {ps : List Str} {sp : Sp} {dvs : List V} {ds : List Value} {E : XK} {x m : Str} {p pos apos : Pos} {e o : Expr} {es : List Expr} {ta : TE} {t : TA}
theorem run_fn {pins : List (Addr × Obj)} {σ : St} {H : Hp} {s : Shared} {Q : VK} {us : List Value} {vs : List V} (F : FnOk X.prog X.w X.K X.mg X.base CX k f fd ps sp) (hr : Room k X.A) (hb : Binds X.K fd ps ds) (hd : Vals dvs ds) (hx : Passes CX X E)
    (I : Inv X pins σ H s) (r : Vals vs us) (h : sp (vs ++ dvs) H Q E) : wpAny (model X.prog X.w) X.A (call (.ref f) us) (EP X pins σ Q) X.xe s := by
  have r2 : Vals (vs ++ dvs) (us ++ ds) := r.append hd
  have hl : (us ++ ds).length = ps.length := by rw [← r2.length]; exact F.len _ _ _ _ h
  refine wpAny_call (codeAny_mono (F.run X.A X.stack s H ⟨us, []⟩ (us ++ ds) (vs ++ dvs) Q E hr I.env0 (hb s us I.kIn hl) r2 h) fun r s' hq => ?_)
  cases r with
  | error e => exact hx pins σ H s e s' I hq
  | ok fl =>
    cases fl with
    | ret u => exact I.after hq
    | next => exact False.elim hq
    | brk => exact False.elim hq
    | cont => exact False.elim hq
theorem pe_call (F : FnOk X.prog X.w X.K X.mg X.base CX k f fd ps sp) (hr : Room k X.A) (hg : Gl X x) (hm : X.mg x = some (.ref f)) (hk : PySem.W.keepIn X.K (.ref f) = true) (hb : Binds X.K fd ps ds) (hd : Vals dvs ds) (hx : Passes CX X E)
    (ha : PA X (e :: es) t) (hdb : (x == ("__debug__" : Str)) = false := by decide) (he : starEach (e :: es) X.env = (false, eval e X.env) :: starEach es X.env := by rfl) (hpl : (backTo pos (starEach es X.env)).any (·.1) = false := by rfl) :
    PE X (.Call (.Name x p) (e :: es) [] pos) (tCall sp dvs E t) := by
  intro pins s σ H Q I h
  refine wpAny_Call_Name_kw (ld_glob I hg hm ?_ hdb)
  refine PySem.W.callWith_K (h₀ := X.base) I.ok.mod.kin hk (thn (ha pos pins s σ H _ I h) fun us s1 ⟨vs, H1, I1, r, q⟩ => ⟨I1.kIn, ?_⟩) he hpl
  exact run_fn F hr hb hd hx I1 r q
structure Mk (K : PySem.W.Frag) (C f : Addr) : Prop where
  makes : PySem.W.makesIn K C = true
  init : PySem.W.findIn K (.ref C) "__init__" = some (some (.ref f))
  fn : PySem.W.isFn K (.ref f) = true
  kp : PySem.W.keepIn K (.ref C) = true
end
section
variable {X : Cx} {CX : CXT} {k : Nat} {f C : Addr} {fd : FuncData} {ps ks : List Str} {sp : Sp} {E : XK} {x m : Str} {p pos apos kpos : Pos} {e o : Expr} {es : List Expr} {kws : List Keyword} {te ta : TE} {t tk : TA} {nm : Option Str}
structure KBinds (K : PySem.W.Frag) (fd : FuncData) (ps ks : List Str) (g : List Value → List Value → List Value) (gV : List V → List V → List V) : Prop where
  to : ∀ (s : Shared) (us ws : List Value), K.In s.heap → (g us ws).length = ps.length → BindsTo s fd ⟨us, ks.zip ws⟩ (ps.zip (g us ws))
  rel : ∀ {vs : List V} {us : List Value} {zs : List V} {ws : List Value}, Vals vs us → Vals zs ws → Vals (gV vs zs) (g us ws)
variable {g : List Value → List Value → List Value} {gV : List V → List V → List V}
end
structure FnScope (N P : List Str) (sc : Scope) : Prop where
  kind : sc.kind = .function
  co : sc.isCoroutine = false
  gen : sc.isGenerator = false
  nd : N.Nodup
  pre : N.take P.length = P
  par : ∀ x ∈ P, sc.names.lookup x = some .local ∨ sc.names.lookup x = some .cell
  nofree : ∀ y ∈ sc.names, y.2 ≠ .free
theorem bindL_out {kindOf : Str → Option NameKind} {x : Str} : ∀ {binds : List (Str × Value)} {m : Str → Option Value}, (∀ v, (x, v) ∉ binds) → bindL kindOf binds m x = m x
  | [], _, _ => rfl
  | (n, v) :: r, m, h => by
    unfold bindL
    rw [bindL_out fun w hw => h w (List.mem_cons_of_mem _ hw)]
    split
    · have : x ≠ n := by rintro rfl; exact h v List.mem_cons_self
      simp [this]
    · rfl
theorem bindC_out {kindOf : Str → Option NameKind} {x : Str} : ∀ {binds : List (Str × Value)} {m : Str → Option Value}, (∀ v, (x, v) ∉ binds) → bindC kindOf binds m x = m x
  | [], _, _ => rfl
  | (n, v) :: r, m, h => by
    unfold bindC
    rw [bindC_out fun w hw => h w (List.mem_cons_of_mem _ hw)]
    split
    · rfl
    · have : x ≠ n := by rintro rfl; exact h v List.mem_cons_self
      simp [this]
theorem bindL_get {kindOf : Str → Option NameKind} {x : Str} {v : Value} : ∀ {P : List Str} {vs : List Value} {i : Nat} {m : Str → Option Value}, P.Nodup → P[i]? = some x → vs[i]? = some v → kindOf x = some .local →
    bindL kindOf (P.zip vs) m x = some v
  | [], _, _, _, _, h, _, _ => by simp at h
  | _ :: _, [], _, _, _, _, h, _ => by simp at h
  | p :: P, w :: vs, 0, m, nd, h1, h2, hk => by
    simp at h1 h2; subst h1; subst h2
    show bindL kindOf ((p, w) :: P.zip vs) m p = _
    unfold bindL
    rw [bindL_out fun v hv => (List.nodup_cons.mp nd).1 (List.of_mem_zip hv).1, if_pos hk]
    simp
  | p :: P, w :: vs, i + 1, m, nd, h1, h2, hk => by
    show bindL kindOf ((p, w) :: P.zip vs) m x = _
    unfold bindL
    exact bindL_get (i := i) (List.nodup_cons.mp nd).2 (by simpa using h1) (by simpa using h2) hk
theorem bindC_get {kindOf : Str → Option NameKind} {x : Str} {v : Value} : ∀ {P : List Str} {vs : List Value} {i : Nat} {m : Str → Option Value}, P.Nodup → P[i]? = some x → vs[i]? = some v → kindOf x ≠ some .local →
    bindC kindOf (P.zip vs) m x = some v
  | [], _, _, _, _, h, _, _ => by simp at h
  | _ :: _, [], _, _, _, _, h, _ => by simp at h
  | p :: P, w :: vs, 0, m, nd, h1, h2, hk => by
    simp at h1 h2; subst h1; subst h2
    show bindC kindOf ((p, w) :: P.zip vs) m p = _
    unfold bindC
    rw [bindC_out fun v hv => (List.nodup_cons.mp nd).1 (List.of_mem_zip hv).1, if_neg hk]
    simp
  | p :: P, w :: vs, i + 1, m, nd, h1, h2, hk => by
    show bindC kindOf ((p, w) :: P.zip vs) m x = _
    unfold bindC
    exact bindC_get (i := i) (List.nodup_cons.mp nd).2 (by simpa using h1) (by simpa using h2) hk
def start (N : List Str) (vs : List V) : St := vs.map some ++ List.replicate (N.length - vs.length) none
def cxOf (CX : CXT) (P : Program) (w : World) (K : PySem.W.Frag) (mg : Str → Option Value) (base : Heap) (N : List Str) (qual : Str) (scope : Scope) (f : Addr) (cd : Value) (A : Around) (outer : List Env) (s : Shared) (H : Hp) (E : XK) : Cx where
  prog := P
  w := w
  K := K
  mg := mg
  base := base
  A := A.deeper (envOfC qual scope s.heap.objs.size f cd)
  N := N
  s₀ := s
  H₀ := H
  env := envOfC qual scope s.heap.objs.size f cd
  outer := outer
  stack := envOfC qual scope s.heap.objs.size f cd :: outer
  ex := []
  calm := true
  fn := fun _ => true
  pn := []
  xe := fun e s' => wpAny (model P w) (A.deeper (envOfC qual scope s.heap.objs.size f cd)) (leaving (envOfC qual scope s.heap.objs.size f cd) e) (fun _ s'' => CX outer H s E e s'') (fun e' s'' => CX outer H s E e' s'') s'
theorem cell_has {sc : Scope} {n : Nat} {x : Str} (h : sc.names.lookup x = some .cell) : ∃ c, (cellsFrom n sc.names []).lookup x = some c := by
  have q := PySem.W.cellsFrom_some sc.names n [] (.inl h)
  exact Option.isSome_iff_exists.mp q
theorem inv_start {CX : CXT} {P : Program} {w : World} {K : PySem.W.Frag} {mg : Str → Option Value} {base : Heap} {N ps : List Str} {qual : Str} {scope : Scope} {f : Addr} {cd : Value} {A : Around} {outer : List Env} {s s1 : Shared} {H : Hp} {E : XK} {us : List Value} {vs : List V}
    (S : FnScope N ps scope) (hd : A.handled = none) (e0 : Env0 P w K mg base A outer s H) (hl : vs.length = ps.length) (r : Vals vs us)
    (x : InCallC s s.heap.objs.size (bindL (envOfC qual scope s.heap.objs.size f cd).kindOf (ps.zip us) fun _ => none) (cellsFrom (s.heap.objs.size + 1) scope.names []) (bindC (envOfC qual scope s.heap.objs.size f cd).kindOf (ps.zip us) fun _ => none) s1) :
    Inv (cxOf CX P w K mg base N qual scope f cd A outer s H E) [] (start N vs) H s1 := by
  have hpl : ps.length ≤ N.length := by have := congrArg List.length S.pre; rw [List.length_take] at this; omega
  obtain ⟨h1, tk, rfl, hk⟩ := x.done
  have noA : ∀ b : Addr, b ∉ (cxOf CX P w K mg base N qual scope f cd A outer s H E).ex := fun b z => absurd (show b ∈ ([] : List Addr) from z) (by simp)
  refine ⟨⟨e0.mod, S.kind, rfl, rfl, Nat.le_refl _, fun y z c h1 h2 => ?_, fun y hy => ?_, fun y c _ h => ?_, fun _ => hd, Around.frames_deeper e0.frames, .inr ⟨rfl, rfl⟩, fun b z => absurd z (noA b), e0.bs, e0.bsz, fun b _ _ => noA b, fun b z => absurd z (noA b), e0.funs, e0.frf⟩,
    rfl, e0.bare, Un.kept hk, ⟨_, x.toInCall.ns, fun i y v h1 h2 h3 => ?_⟩, fun y c h => ⟨_, x.cell y c h⟩, e0.hok.fresh (Nat.le_refl _), fun y c h => ?_, fun p hp => absurd (show p ∈ ([] : List (Addr × Obj)) from hp) (by simp), e0.hok.kept hk, ?_⟩
  · exact name_of_addr x.apart (PySem.mem_of_lookup h1) (PySem.mem_of_lookup h2)
  · have hy : scope.names.lookup y = some .cell ∨ scope.names.lookup y = some .free := hy
    rcases hy with hy | hy
    · exact cell_has hy
    · exact absurd rfl (S.nofree _ (PySem.mem_of_lookup hy))
  · exact Nat.le_of_lt (x.above y c (PySem.mem_of_lookup h))
  · have hi : i < vs.length := by
      unfold start at h2
      by_cases hi : i < vs.length
      · exact hi
      · rw [List.getElem?_append_right (by simpa using hi)] at h2
        rw [List.getElem?_replicate] at h2
        split at h2 <;> cases h2
    have ha : vs[i]? = some v := by
      unfold start at h2
      rw [List.getElem?_append_left (by simpa using hi), List.getElem?_map] at h2
      cases e : vs[i]? with
      | none => rw [e] at h2; cases h2
      | some a => rw [e] at h2; cases h2; rfl
    obtain ⟨u, hu, rv⟩ := r.get ha
    have hp : ps[i]? = some y := by
      rw [← S.pre, List.getElem?_take_of_lt (by omega)]; exact h1
    have ndP : ps.Nodup := by rw [← S.pre]; exact S.nd.sublist (List.take_sublist _ _)
    refine ⟨u, rv, ?_⟩
    rcases S.par y (List.mem_of_getElem? hp) with k | k
    · exact .inl ⟨k, bindL_get ndP hp hu k⟩
    · obtain ⟨c, e⟩ := cell_has (n := s.heap.objs.size + 1) k
      refine .inr ⟨.inl k, c, e, ?_⟩
      have q := x.cell y c e
      rw [bindC_get ndP hp hu (by show scope.names.lookup y ≠ _; rw [k]; decide)] at q
      exact q
  · exact e0.hok.fresh (Nat.le_of_lt (x.above y c (PySem.mem_of_lookup h)))
  · unfold start
    show _ = N.length
    rw [List.length_append, List.length_map, List.length_replicate]
    omega
theorem fn_of {CX : CXT} {P : Program} {w : World} {K : PySem.W.Frag} {mg : Str → Option Value} {base : Heap} {k : Nat} {f : Addr} {name qual : Str} {params : Arguments} {body : List Stmt} {scope : Scope} {dV kV doc pm cdv ct oc : Value} {an od : Option Addr}
    {osl : Array (Option Value)} {N ps : List Str} {sp : Sp} (lk : K.lookup f = some ⟨oc, od, .func (PySem.W.fnOf name qual params body scope dV kV doc pm an cdv ct), osl⟩) (hcd : PySem.W.codeIn K cdv qual = true) (S : FnScope N ps scope)
    (len : ∀ vs H Q E, sp vs H Q E → vs.length = ps.length)
    (hbody : ∀ (A : Around) (outer : List Env) (s : Shared) (H : Hp) (vs : List V) (Q : VK) (E : XK), Room k (A.deeper (envOfC qual scope s.heap.objs.size f cdv)) → sp vs H Q E →
      ∃ t, PSs (cxOf CX P w K mg base N qual scope f cdv A outer s H E) body t ∧ t { nx := fun _ H' => Q .non H', rt := Q } (start N vs) H) :
    FnOk P w K mg base CX (k + 1) f (PySem.W.fnOf name qual params body scope dV kV doc pm an cdv ct) ps sp := by
  refine ⟨len, fun A outer s H args us vs Q E hr e0 hb r hsp => ?_⟩
  have hl := len _ _ _ _ hsp
  have KX : K.In s.heap := e0.mod.kin.keeps fun b o e => (e0.bs b o e).1
  have lim : s.heap.NoLimit := e0.mod.nolimit.keeps fun b o e => (e0.bs b o e).1
  have hkind : ∀ y ∈ ps.zip us, scope.names.lookup y.1 = some .local ∨ (scope.names.lookup y.1 = some .cell ∧ ((cellsFrom (s.heap.objs.size + 1) scope.names []).lookup y.1).isSome = true) := fun ⟨n, v⟩ hy => by
    rcases S.par n (List.of_mem_zip hy).1 with q | q
    · exact .inl q
    · exact .inr ⟨q, PySem.W.cellsFrom_some _ _ _ (.inl q)⟩
  refine codeAny_call_function hr.depth (KX _ _ lk) rfl S.co S.gen rfl (PySem.W.codeRec_of KX hcd) (hb _ _ _ _ ?_)
  refine wpAny_newFunctionEnv_cells S.kind hkind fun env he s1 x => ?_
  subst he
  refine ⟨lim.keeps x.toInCall.keep, codeAny_func ?_⟩
  obtain ⟨t, ht, hq⟩ := hbody A outer s H vs Q E (hr.deeper _) hsp
  have I : Inv (cxOf CX P w K mg base N qual scope f cdv A outer s H E) [] (start N vs) H s1 := inv_start S hr.hd e0 hl r x
  refine wpAny_mono (ht [] s1 (start N vs) H _ I hq) (fun fl s' hs => ?_) fun e s' hs => hs
  have fin : ∀ {σ' : St} {H' : Hp} {v : V} {u : Value}, Inv (cxOf CX P w K mg base N qual scope f cdv A outer s H E) [] σ' H' s' → RelV v u → Q v H' → CE outer P w H s Q u s' :=
    fun {σ' H' v u} J rv q => ⟨v, H', J.os, J.bare, J.base, J.hok, rv, q⟩
  cases fl with
  | ret u =>
    obtain ⟨v, σ', H', J, rv, q⟩ := hs
    exact fin J rv q
  | next =>
    obtain ⟨σ', H', J, q⟩ := hs
    exact fin (v := V.non) (u := Value.none) J rfl q
  | brk =>
    obtain ⟨_, _, _, q⟩ := hs
    exact False.elim q
  | cont =>
    obtain ⟨_, _, _, q⟩ := hs
    exact False.elim q
end L2
namespace L2
open PySem PySem.Spec PyProof.Rows
section
variable {X : Cx} {x : Str} {p pos : Pos} {e : Expr} {es : List Expr} {t : TA} {id T : String} {r : List V → Hp → VK → Prop}
def tCB (r : List V → Hp → VK → Prop) (t : TA) : TE := fun σ H Q => t σ H fun vs H1 => r vs H1 Q
theorem pe_callB (hc : CallR X (.builtin id) r) (hg : Gl X x) (hm : X.mg x = none) (hv : bootBuiltins x = some (.builtin id)) (ha : PA X (e :: es) t) (hn : x ≠ "__name__" := by decide) (hdb : (x == ("__debug__" : Str)) = false := by decide)
    (he : starEach (e :: es) X.env = (false, eval e X.env) :: starEach es X.env := by rfl) (hpl : (backTo pos (starEach es X.env)).any (·.1) = false := by rfl) : PE X (.Call (.Name x p) (e :: es) [] pos) (tCB r t) := by
  intro pins s σ H Q I h
  refine wpAny_Call_Name_kw (ld_blt I hg hm hv ?_ hn hdb)
  exact PyProof.Rows.callWith_builtin1 (thn (ha pos pins s σ H _ I h) fun us s1 ⟨vs, H1, I1, r1, q1⟩ => hc pins s1 σ H1 vs us Q I1 r1 q1) he hpl
theorem pe_callTy (hc : CallR X (.type T) r) (hg : Gl X x) (hm : X.mg x = none) (hv : bootBuiltins x = some (.type T)) (ha : PA X (e :: es) t) (hn : x ≠ "__name__" := by decide) (hdb : (x == ("__debug__" : Str)) = false := by decide)
    (he : starEach (e :: es) X.env = (false, eval e X.env) :: starEach es X.env := by rfl) (hpl : (backTo pos (starEach es X.env)).any (·.1) = false := by rfl) : PE X (.Call (.Name x p) (e :: es) [] pos) (tCB r t) := by
  intro pins s σ H Q I h
  refine wpAny_Call_Name_kw (ld_blt I hg hm hv ?_ hn hdb)
  exact PyProof.Rows.callWith_type1 (thn (ha pos pins s σ H _ I h) fun us s1 ⟨vs, H1, I1, r1, q1⟩ => hc pins s1 σ H1 vs us Q I1 r1 q1) he hpl
end
end L2
namespace HT
open PySem PyProof.Rows
def lexLt : List Int → List Int → Bool
  | [], [] => false
  | [], _ :: _ => true
  | _ :: _, [] => false
  | x :: xs, y :: ys => if x = y then lexLt xs ys else decide (x < y)
section
open PySem.SeqAt
open PySem.AutoSeq1 (wpAny_loadPart')
open PySem.MeetsSeq PySem.MeetsSeq2 PySem.MeetsSeq3
end
section
variable {prog : Program} {w : World} {A : Around} {E : Value → Shared → Prop} {s : Shared}
def sIx (n d : Nat) : Option Int → Nat
  | none => d
  | some v => if v < 0 then (v + (n : Int)).toNat else min v.toNat n
theorem sIx_nat (n d k : Nat) : sIx n d (some (k : Int)) = min k n := by
  show (if (k : Int) < 0 then ((k : Int) + (n : Int)).toNat else min (k : Int).toNat n) = min k n
  rw [if_neg (by omega), Int.toNat_natCast]
end
end HT
namespace L2
open PySem PySem.Spec PyProof.Rows
abbrev TO := St → Hp → (Option Int → Hp → Prop) → Prop
def PO (X : Cx) (e : Option Expr) (t : TO) : Prop :=
  ∀ (pins : List (Addr × Obj)) (s : Shared) (σ : St) (H : Hp) (Q : Option Int → Hp → Prop), Inv X pins σ H s → t σ H Q →
    wpAny (model X.prog X.w) X.A (evalPart e X.env) (fun u s' => ∃ o H', Inv X pins σ H' s' ∧ IsPart u o ∧ Q o H') X.xe s
def tNoPart : TO := fun _ H Q => Q none H
def tPart (t : TE) : TO := fun σ H Q => t σ H fun x H1 => ∃ i, x = .int i ∧ Q (some i) H1
theorem intsAre_of {ns : List Int} : ∀ {us : List Value}, Vals (ns.map V.int) us → IntsAre us ns := by
  induction ns with
  | nil => intro us r; rw [List.map_nil] at r; cases r; exact .nil
  | cons n ns ih =>
    intro us r
    rw [List.map_cons] at r
    cases r with
    | cons r1 r2 =>
      obtain ⟨t, e⟩ := r1
      subst e
      exact .cons n t (ih r2)
section
variable {X : Cx} {e : Expr} {te : TE} {lo hi : Option Expr} {tl th : TO} {pos p2 : Pos}
theorem po_none : PO X none tNoPart := by
  intro pins s σ H Q I h
  rw [evalPart_none]
  exact wpAny_pure ⟨none, H, I, .none, h⟩
theorem po_some (h : PE X e te) : PO X (some e) (tPart te) := by
  intro pins s σ H Q I hw
  rw [evalPart_some]
  refine thn (h pins s σ H _ I hw) fun u s1 ⟨x, H1, I1, r1, q1⟩ => ?_
  obtain ⟨i, rfl, q⟩ := q1
  obtain ⟨t, rfl⟩ := r1
  exact ⟨some i, H1, I1, .int i t, q⟩
def SlR (X : Cx) (r : V → Option Int → Option Int → Hp → VK → Prop) : Prop :=
  ∀ (pins : List (Addr × Obj)) (s : Shared) (σ : St) (H : Hp) (x : V) (v vl vu : Value) (lo hi : Option Int) (sl : Addr) (Q : VK), Inv X pins σ H s → RelV x v → s.heap.IsSliceOf sl vl vu .none → IsPart vl lo → IsPart vu hi → r x lo hi H Q →
    ∃ T id, typeLookup (.type T) "__getitem__" = pure (some (.builtin id)) ∧ s.TypeIs v T ∧ wpAny (model X.prog X.w) X.A (getItem v (.ref sl)) (EP X pins σ Q) X.xe s
def tSl (r : V → Option Int → Option Int → Hp → VK → Prop) (te : TE) (tl th : TO) : TE := fun σ H Q => te σ H fun x H1 => tl σ H1 fun l H2 => th σ H2 fun u H3 => r x l u H3 Q
theorem pe_slice {r : V → Option Int → Option Int → Hp → VK → Prop} (hr : SlR X r) (he : PE X e te) (hl : PO X lo tl) (hu : PO X hi th) : PE X (.Subscript e (.Slice lo hi none p2) pos) (tSl r te tl th) := by
  intro pins s σ H Q I h
  refine Subscript_ (thn (he pins s σ H _ I h) fun v s1 ⟨x, H1, I1, r1, q1⟩ => ?_)
  refine wpAny_Slice (thn (hl pins s1 σ H1 _ I1 q1) fun vl s2 ⟨l, H2, I2, pl, q2⟩ => thn (hu pins s2 σ H2 _ I2 q2) fun vu s3 ⟨u, H3, I3, pu, q3⟩ => ?_)
  rw [evalPart_none]
  refine wpAny_pure ?_
  have I4 : Inv X pins σ H3 { s3 with heap := s3.heap.push { cls := .type "slice", data := .fields #[vl, vu, .none] } } := I3.kept (t' := s3.toks) fun b ob q => Heap.get?_push_of_some _ q
  obtain ⟨T, id, hT, ht, hg⟩ := hr pins { s3 with heap := s3.heap.push { cls := .type "slice", data := .fields #[vl, vu, .none] } } σ H3 x v vl vu l u s3.heap.objs.size Q I4 r1 (Heap.IsSliceOf.new ..) pl pu q3
  show wpAny (model X.prog X.w) X.A (subscriptTail e (.Slice lo hi none p2) v (.ref s3.heap.objs.size)) (EP X pins σ Q) X.xe { s3 with heap := s3.heap.push { cls := .type "slice", data := .fields #[vl, vu, .none] } }
  exact tail_any (ops := [.ref s3.heap.objs.size, v]) ht hT hg (by with_unfolding_all rfl)
def cutV (xs : List V) (lo hi : Option Int) : List V := (xs.drop (HT.sIx xs.length 0 lo)).take (HT.sIx xs.length xs.length hi - HT.sIx xs.length 0 lo)
theorem cutV_length (xs : List V) (lo hi : Option Int) : (cutV xs lo hi).length ≤ xs.length := by
  unfold cutV
  rw [List.length_take, List.length_drop]
  omega
end
end L2
namespace L2
open PySem PySem.Spec PyProof.Rows
def ixN (n : Nat) (i : Int) : Option Nat := if 0 ≤ i then (if i < n then some i.toNat else none) else if -(n : Int) ≤ i then some (i + n).toNat else none
def atI {α : Type} (xs : List α) (i : Int) : Option α := (ixN xs.length i).bind fun j => xs[j]?
theorem ixN_seq {n : Nat} {i : Int} {j : Nat} (h : ixN n i = some j) : seqIndex? i n = some j ∧ j < n ∧ -(n : Int) ≤ i ∧ i < n := by
  unfold ixN at h
  by_cases h0 : 0 ≤ i
  · rw [if_pos h0] at h
    by_cases h1 : i < n
    · rw [if_pos h1] at h
      have e : i.toNat = j := Option.some.inj h
      exact ⟨by rw [seqIndex_of h0 h1, e], by omega, by omega, h1⟩
    · rw [if_neg h1] at h; cases h
  · rw [if_neg h0] at h
    by_cases h1 : -(n : Int) ≤ i
    · rw [if_pos h1] at h
      have e : (i + n).toNat = j := Option.some.inj h
      exact ⟨by rw [seqIndex_neg (by omega) h1, e], by omega, h1, by omega⟩
    · rw [if_neg h1] at h; cases h
theorem atI_get {α : Type} {xs : List α} {i : Int} {v : α} (h : atI xs i = some v) : ∃ j, seqIndex? i xs.length = some j ∧ xs[j]? = some v ∧ j < xs.length ∧ -(xs.length : Int) ≤ i ∧ i < xs.length := by
  unfold atI at h
  cases e : ixN xs.length i with
  | none => rw [e] at h; cases h
  | some j =>
    rw [e] at h
    obtain ⟨h1, h2, h3, h4⟩ := ixN_seq e
    exact ⟨j, h1, h, h2, h3, h4⟩
def PlainIx (b : Expr) : Prop := ∀ o i, subscripted b false o i = operate [o, i] (getItem o i)
def IxR (X : Cx) (r : R2) : Prop :=
  ∀ (value slice : Expr) (pins : List (Addr × Obj)) (s : Shared) (σ : St) (H : Hp) (x y : V) (v u : Value) (Q : VK), Inv X pins σ H s → RelV x v → RelV y u → r x y H Q →
    subscripted slice false v u = operate [v, u] (getItem v u) → wpAny (model X.prog X.w) X.A (subscriptTail value slice v u) (EP X pins σ Q) X.xe s
def MtR (X : Cx) (id : String) (r : V → List V → Hp → VK → Prop) : Prop :=
  ∀ (pins : List (Addr × Obj)) (s : Shared) (σ : St) (H : Hp) (x : V) (xs : List V) (v : Value) (us : List Value) (Q : VK), Inv X pins σ H s → RelV x v → Vals xs us → r x xs H Q →
    wpAny (model X.prog X.w) X.A (call (.builtin id) (v :: us)) (EP X pins σ Q) X.xe s
section
variable {X : Cx} {a b : Expr} {ta tb : TE} {pos : Pos}
theorem IxR.or {r r' : R2} (h : IxR X r) (h' : IxR X r') : IxR X (fun x y H Q => r x y H Q ∨ r' x y H Q) := by
  intro value slice pins s σ H x y v u Q I rx ry q hs
  rcases q with q | q
  · exact h value slice pins s σ H x y v u Q I rx ry q hs
  · exact h' value slice pins s σ H x y v u Q I rx ry q hs
theorem pe_ix {r : R2} (hr : IxR X r) (ha : PE X a ta) (hb : PE X b tb) (hs : PlainIx b) : PE X (.Subscript a b pos) (tOp r ta tb) := by
  intro pins s σ H Q I h
  exact Subscript_ (binT ha hb I h fun v u s2 x y H2 I2 rx ry q => hr a b pins s2 σ H2 x y v u Q I2 rx ry q (hs _ _))
def rIxL (K : PySem.W.Frag) : R2 := fun x y H Q => ∃ p xs i v, x = .ref p ∧ y = .int i ∧ SqL K H p xs ∧ atI xs i = some v ∧ Q v H
def rIxT (K : PySem.W.Frag) : R2 := fun x y H Q => ∃ p xs i v, x = .ref p ∧ y = .int i ∧ SqT K H p xs ∧ atI xs i = some v ∧ Q v H
def rIxS : R2 := fun x y H Q => ∃ z i c, x = .str z ∧ y = .int i ∧ z.length ≤ sizeLine ∧ atI z.cps.toList i = some c ∧ Q (.str ⟨#[c]⟩) H
theorem ix_list : IxR X (rIxL X.K) := by
  intro value slice pins s σ H x y v u Q I rx ry h hs
  obtain ⟨p, xs, i, z, rfl, rfl, hq, he, q⟩ := h
  cases rx
  obtain ⟨t, rfl⟩ := ry
  obtain ⟨its, r, pl, hz⟩ := I.list hq
  obtain ⟨j, h1, h2, h3, h4, h5⟩ := atI_get he
  obtain ⟨w, ew, rw'⟩ := r.get h2
  have hl := r.length
  have hn := line63
  have fin : EP X pins σ Q w s := ⟨z, H, I, rw', q⟩
  by_cases h0 : 0 ≤ i
  · have hj : i.toNat = j := by
      rw [seqIndex_of h0 h5] at h1
      exact Option.some.inj h1
    exact item_listR pl.isList h0 (by omega) (by rw [hj]; simpa using ew) fin hs
  · have hj : (i + (its.toArray.size : Int)).toNat = j := by
      rw [seqIndex_neg (by omega) h4] at h1
      rw [List.size_toArray, ← hl]
      exact Option.some.inj h1
    exact subscriptTail_builtinR (x := w) pl.isList.typeIs slot_list_getitem.lookup
      (wpAny_getItem_list_neg (Q := fun r s' => r = w ∧ EP X pins σ Q r s') pl.isList (by omega) (by rw [List.size_toArray] <;> omega) (by omega) (by rw [hj]; simpa using ew) ⟨rfl, fin⟩) hs
theorem ix_tup : IxR X (rIxT X.K) := by
  intro value slice pins s σ H x y v u Q I rx ry h hs
  obtain ⟨p, xs, i, z, rfl, rfl, hq, he, q⟩ := h
  cases rx
  obtain ⟨t, rfl⟩ := ry
  obtain ⟨its, r, pl, hz⟩ := I.tuple hq
  obtain ⟨j, h1, h2, h3, h4, h5⟩ := atI_get he
  obtain ⟨w, ew, rw'⟩ := r.get h2
  have hl := r.length
  have hn := line63
  have fin : EP X pins σ Q w s := ⟨z, H, I, rw', q⟩
  exact subscriptTail_builtinR (x := w) pl.typeIs slot_tuple_getitem.lookup
    (getItem_tuple (j := j) (Q := fun r s' => r = w ∧ EP X pins σ Q r s') pl (by omega) (by omega) (by rw [List.size_toArray, ← hl]; exact h1) (by simpa using ew) ⟨rfl, fin⟩) hs
theorem ix_str : IxR X rIxS := by
  intro value slice pins s σ H x y v u Q I rx ry h hs
  obtain ⟨z, i, c, rfl, rfl, hz, he, q⟩ := h
  obtain ⟨t, rfl⟩ := rx
  obtain ⟨t', rfl⟩ := ry
  obtain ⟨j, h1, h2, h3, h4, h5⟩ := atI_get he
  have hl : z.cps.toList.length = z.length := by simp [Str.length]
  rw [hl] at h1 h4 h5
  have hn := line63
  exact tail_any (typeIs_str s z t) slot_str_getitem.lookup (getItem_str (c := c) (by
    have e1 : decide (i < -(2 ^ 63 : Int)) = false := decide_eq_false (by omega)
    have e2 : decide (i ≥ 2 ^ 63) = false := decide_eq_false (by omega)
    rw [e1, e2, Bool.or_false]) (by rw [h1]; simpa using h2) ⟨.str ⟨#[c]⟩, H, I.tok _, ⟨_, rfl⟩, q⟩) hs
def rIx (K : PySem.W.Frag) : R2 := fun x y H Q => rIxL K x y H Q ∨ rIxT K x y H Q ∨ rIxS x y H Q
theorem ix_seq : IxR X (rIx X.K) := ix_list.or (ix_tup.or ix_str)
theorem mapSeq_set (its : List Value) (n j : Nat) (u : Value) : Obj.mapSeq (·.setIfInBounds j u) { cls := .type "list", data := .seq its.toArray n } = { cls := .type "list", data := .seq (its.set j u).toArray n } := by
  simp [Obj.mapSeq]
theorem Inv.lst {pins : List (Addr × Obj)} {σ : St} {H : Hp} {s : Shared} {p : Addr} {xs : List V} (I : Inv X pins σ H s) (h : H p = some (.lst xs)) :
    ∃ (its : List Value) (n : Nat), Vals xs its ∧ s.heap.get? p = some { cls := .type "list", data := .seq its.toArray n } ∧ xs.length ≤ sizeLine := by
  obtain ⟨z, its, n, r, e⟩ := I.hok p _ h
  exact ⟨its, n, r, e, z⟩
theorem Inv.lstUpd {pins : List (Addr × Obj)} {σ : St} {H : Hp} {s : Shared} {p : Addr} {xs ys : List V} {its its' : List Value} {n n' : Nat} {f : Obj → Obj} (I : Inv X pins σ H s) (h : H p = some (.lst xs))
    (ho : s.heap.get? p = some { cls := .type "list", data := .seq its.toArray n }) (hf : f { cls := .type "list", data := .seq its.toArray n } = { cls := .type "list", data := .seq its'.toArray n' }) (r : Vals ys its') (hz : ys.length ≤ sizeLine) (t : Nat) :
    Inv X pins σ (upd H p (.lst ys)) { s with heap := s.heap.update p f, toks := t } := by
  have e : (s.heap.update p f).get? p = some { cls := .type "list", data := .seq its'.toArray n' } := by
    rw [Heap.get?_update_self f ho (by rw [hf] <;> rfl), hf]
  refine I.write (x := p) (e := p) (by rw [h]; trivial) (.inl rfl) (fun b u hb q => (Heap.get?_update_other _ _ (Ne.symm hb)).trans q) ⟨_, e⟩ ?_
  exact ⟨hz, its', n', r, e⟩
def rSetL : V → V → V → Hp → (Hp → Prop) → Prop := fun o i v H Q => ∃ p xs k j, o = .ref p ∧ i = .int k ∧ H p = some (.lst xs) ∧ ixN xs.length k = some j ∧ Q (upd H p (.lst (xs.set j v)))
theorem set_list : PSet X rSetL := by
  intro pins s σ H o i v ov iv u Q I ro ri rv h
  obtain ⟨p, xs, k, j, rfl, rfl, hp, hj, q⟩ := h
  cases ro
  obtain ⟨t, rfl⟩ := ri
  obtain ⟨its, n, r, ho, hz⟩ := I.lst hp
  obtain ⟨h1, h2, h3, h4⟩ := ixN_seq hj
  have hl := r.length
  have hn := line63
  have I' : Inv X pins σ (upd H p (.lst (xs.set j v))) { s with heap := s.heap.update p (Obj.mapSeq (·.setIfInBounds j u)) } :=
    I.lstUpd hp ho (mapSeq_set its n j u) (r.set rv j) (by rw [List.length_set]; exact hz) s.toks
  by_cases h0 : 0 ≤ k
  · have hk : k.toNat = j := by
      rw [seqIndex_of h0 h4] at h1
      exact Option.some.inj h1
    exact PySem.W.ki_setAt ho h0 (by omega) (by rw [List.size_toArray, ← hl]; exact h4) (by rw [hk]; exact ⟨_, I', q⟩)
  · have hk : (k + (its.toArray.size : Int)).toNat = j := by
      rw [seqIndex_neg (by omega) h3] at h1
      rw [List.size_toArray, ← hl]
      exact Option.some.inj h1
    exact PySem.W.ki_setBack ho (by omega) (by rw [List.size_toArray, ← hl]; exact h3) (by omega) (by rw [hk]; exact ⟨_, I', q⟩)
theorem slice_bounds (lo hi : Option Int) (n : Nat) : (sliceBounds lo hi none n).1 = ((HT.sIx n 0 lo : Nat) : Int) ∧ (sliceBounds lo hi none n).2.1 = ((HT.sIx n n hi : Nat) : Int) ∧ (sliceBounds lo hi none n).2.2 = 1 := by
  refine ⟨?_, ?_, rfl⟩
  · cases lo with
    | none => simp [sliceBounds, HT.sIx]
    | some i =>
      simp only [sliceBounds, HT.sIx, Option.getD_none, show (1 : Int) > 0 by decide, if_true]
      by_cases h : i < 0
      · simp only [h, if_true] <;> omega
      · simp only [h, if_false] <;> omega
  · cases hi with
    | none => simp [sliceBounds, HT.sIx]
    | some i =>
      simp only [sliceBounds, HT.sIx, Option.getD_none, show (1 : Int) > 0 by decide, if_true]
      by_cases h : i < 0
      · simp only [h, if_true] <;> omega
      · simp only [h, if_false] <;> omega
theorem slicePick_cut (its : List Value) (lo hi : Option Int) : slicePick its.toArray lo hi none = ((its.drop (HT.sIx its.length 0 lo)).take (HT.sIx its.length its.length hi - HT.sIx its.length 0 lo)).toArray := by
  obtain ⟨h1, h2, h3⟩ := slice_bounds lo hi its.toArray.size
  unfold slicePick
  rw [h1, h2, h3]
  simp only [sliceRange_one, pick_run, List.size_toArray] <;> rfl
def rSlL (K : PySem.W.Frag) : V → Option Int → Option Int → Hp → VK → Prop := fun x lo hi H Q => ∃ a xs, x = .ref a ∧ SqL K H a xs ∧ ∀ p, H p = none → Q (.ref p) (upd H p (.lst (cutV xs lo hi)))
theorem sl_list : SlR X (rSlL X.K) := by
  intro pins s σ H x v vl vu lo hi sl Q I rx hs pl pu h
  obtain ⟨a, xs, rfl, hx, q⟩ := h
  cases rx
  obtain ⟨its, r, ht, hz⟩ := I.list hx
  have hlen := r.length
  refine ⟨"list", _, slot_list_getitem.lookup, ht.isList.typeIs, ?_⟩
  refine wpAny_getItem_list_slice ht.isList hs pl pu .none (by simp) ?_ (by rw [List.size_toArray] <;> omega)
  rw [slicePick_cut, ← hlen]
  refine ⟨.ref s.heap.objs.size, _, I.laid (t' := s.toks) (o := .lst (cutV xs lo hi)) (fun b ob q => Heap.get?_push_of_some _ q) (Nat.le_refl _) ?_, rfl, q _ (I.hok.fresh (Nat.le_refl _))⟩
  exact ⟨Nat.le_trans (cutV_length xs lo hi) hz, _, 0, (r.drop (HT.sIx xs.length 0 lo)).take (HT.sIx xs.length xs.length hi - HT.sIx xs.length 0 lo), Heap.get?_push_size _ rfl⟩
theorem CallR.or {f : Value} {r r' : List V → Hp → VK → Prop} (h : CallR X f r) (h' : CallR X f r') : CallR X f (fun xs H Q => r xs H Q ∨ r' xs H Q) := by
  intro pins s σ H xs us Q I rs q
  rcases q with q | q
  · exact h pins s σ H xs us Q I rs q
  · exact h' pins s σ H xs us Q I rs q
theorem call_list_of : CallR X (.type "list") (fun xs H Q => ∃ p ys, xs = [.ref p] ∧ (SqL X.K H p ys ∨ SqT X.K H p ys) ∧ ∀ l, H l = none → Q (.ref l) (upd H l (.lst ys))) := by
  intro pins s σ H xs us Q I r h
  obtain ⟨p, ys, rfl, hq, q⟩ := h
  obtain ⟨u, rfl, rx⟩ := vals1 r
  cases rx
  have fin : ∀ (its : List Value), Vals ys its → ys.length ≤ sizeLine → ∀ (h' : Heap) (c' : Nat), (∀ b o', s.heap.get? b = some o' → h'.get? b = some o') →
      h'.get? s.heap.objs.size = some { cls := .type "list", dict := none, data := .seq its.toArray c', slots := #[] } → EP X pins σ Q (.ref s.heap.objs.size) { s with heap := h' } := fun its r' hz h' c' kp e =>
    ⟨.ref s.heap.objs.size, _, I.laid (t' := s.toks) kp (Nat.le_refl _) (show ObjOk X.prog X.w _ h' _ (.lst ys) from ⟨hz, its, c', r', e⟩), rfl, q _ (I.hok.fresh (Nat.le_refl _))⟩
  rcases hq with hq | hq
  · obtain ⟨its, r', pl, hz⟩ := I.list hq
    have hlen := r'.length
    obtain ⟨o, ho, hc, n, hd⟩ := pl.isList
    exact call_list_seq p (.inl rfl) ho hc hd (fun h' c' kp e => fin its r' hz h' c' kp e) (by simp only [List.size_toArray] <;> omega)
  · obtain ⟨its, r', pl, hz⟩ := I.tuple hq
    have hlen := r'.length
    obtain ⟨o, ho, hc, n, hd⟩ := pl
    exact call_list_seq p (.inr rfl) ho hc hd (fun h' c' kp e => fin its r' hz h' c' kp e) (by simp only [List.size_toArray] <;> omega)
def tyV (K : PySem.W.Frag) (T : String) (x : V) (H : Hp) : Prop := match x with
  | .str _ => T = "str"
  | .int _ => T = "int"
  | .ref p => (T = "list" ∧ ∃ xs, SqL K H p xs) ∨ (T = "tuple" ∧ ∃ o, K.lookup p = some o ∧ o.cls = .type "tuple" ∧ o.dict = none) ∨
      (T = "dict" ∧ ((∃ kvs, H p = some (.dK kvs)) ∨ ∃ kvs, H p = some (.dT kvs))) ∨ (T = "set" ∧ ∃ S n, H p = some (.set S n))
  | _ => False
theorem tyV_is {pins : List (Addr × Obj)} {σ : St} {H : Hp} {s : Shared} {T : String} {x : V} {v : Value} (I : Inv X pins σ H s) (r : RelV x v) (ty : tyV X.K T x H) :
    s.TypeIs v T ∧ ∀ a, v = .ref a → ∃ ob, s.heap.get? a = some ob ∧ ob.dict = none := by
  cases x with
  | str z =>
    obtain ⟨t, rfl⟩ := r
    cases (show T = "str" from ty)
    exact ⟨typeIs_str s z t, fun _ e => nomatch e⟩
  | int i =>
    obtain ⟨t, rfl⟩ := r
    cases (show T = "int" from ty)
    exact ⟨typeIs_int s i t, fun _ e => nomatch e⟩
  | ref p =>
    cases r
    rcases ty with ⟨rfl, xs, hq⟩ | ⟨rfl, o, hk, hc, hd⟩ | ⟨rfl, hk⟩ | ⟨rfl, S, n, hk⟩
    · obtain ⟨its, _, pl, _⟩ := I.list hq
      refine ⟨pl.isList.typeIs, fun a e => ?_⟩
      cases e
      obtain ⟨o, n, e, c, hd, _⟩ := pl
      exact ⟨o, e, hd⟩
    · refine ⟨⟨o, I.kIn p o hk, hc⟩, fun a e => ?_⟩
      cases e
      exact ⟨o, I.kIn _ o hk, hd⟩
    · have z : ∃ o, s.heap.get? p = some o ∧ o.ExactDict := by
        rcases hk with ⟨kvs, hk⟩ | ⟨kvs, hk⟩
        · obtain ⟨_, _, _, _, o, _, _, e, ex, _⟩ := I.hok p _ hk
          exact ⟨o, e, ex⟩
        · obtain ⟨_, _, _, _, o, _, _, e, ex, _⟩ := I.hok p _ hk
          exact ⟨o, e, ex⟩
      obtain ⟨o, e, ex⟩ := z
      refine ⟨⟨o, e, ex.1⟩, fun a e2 => ?_⟩
      cases e2
      exact ⟨o, e, ex.2.1⟩
    · obtain ⟨o, _, _, _, e, ex, _⟩ := I.hok p _ hk
      refine ⟨⟨o, e, ex.1⟩, fun a e2 => ?_⟩
      cases e2
      exact ⟨o, e, ex.2.1⟩
  | _ => exact False.elim ty
def tBM (K : PySem.W.Frag) (T : String) (r : V → List V → Hp → VK → Prop) (to : TE) (t : TA) : TE := fun σ H Q => to σ H fun x H1 => tyV K T x H1 ∧ t σ H1 fun xs H2 => r x xs H2 Q
variable {o e : Expr} {es : List Expr} {to : TE} {t : TA} {name : Str} {apos cpos : Pos} {T id : String} {r : V → List V → Hp → VK → Prop}
theorem pe_bm (pa : PlainAttrs T) (slot : Slot T name id) (hty : typeOf (.builtin id) = pure (.type "method_descriptor")) (hm : MtR X id r) (ho : PE X o to) (ha : PA X (e :: es) t)
    (hbase : attributeBase o name X.env (eval o X.env) = eval o X.env := by rfl)
    (hfew : ((backTo cpos (starEach (e :: es) X.env)).all (fun x => !x.1) && (backToKw cpos (keywordEach [] X.env)).all (fun x => x.1.isSome)
      && decide ((e :: es).length + ([] : List Keyword).length + (if ([] : List Keyword).isEmpty then 0 else 1) < 30)) = true := by rfl)
    (hline : (apos.endLine == cpos.line) = true := by rfl) (hs : starEach (e :: es) X.env = (false, eval e X.env) :: starEach es X.env := by rfl) (hplain : (backTo cpos (starEach es X.env)).any (·.1) = false := by rfl) :
    PE X (.Call (.Attribute o name apos) (e :: es) [] cpos) (tBM X.K T r to t) := by
  intro pins s σ H Q I h
  refine wpAny_Call_method_late hbase hfew hline rfl (thn (ho pins s σ H _ I h) fun v s1 ⟨x, H1, I1, r1, ty, q1⟩ => ?_)
  obtain ⟨h1, h2⟩ := tyV_is I1 r1 ty
  refine ⟨T, id, pa, slot, hty, h1, h2, ?_⟩
  have hA := ha cpos pins s1 σ H1 _ I1 q1
  rw [hs] at hA ⊢
  refine Calls.callWith_builtin (by show (false || (backTo cpos (starEach es X.env)).any (·.1)) = false; rw [hplain] <;> rfl) (Calls.evalArgs_plain ?_)
  exact thn hA fun us s2 ⟨vs, H2, I2, r2, q2⟩ => hm pins s2 σ H2 x vs v us Q I2 r1 r2 q2
end
end L2
namespace L2
open PySem PySem.Spec PyProof.Rows
def MtM (X : Cx) (id : String) (r : V → List V → Hp → VK → Prop) : Prop :=
  ∀ (pins : List (Addr × Obj)) (s : Shared) (σ : St) (H : Hp) (x : V) (xs : List V) (v : Value) (us : List Value) (Q : VK), Inv X pins σ H s → RelV x v → Vals xs us → r x xs H Q →
    wpAny (model X.prog X.w) X.A (call (.builtin id) (v :: us)) (EP X pins σ Q) X.xe s
theorem Vals.one : ∀ {x : V} {us : List Value}, Vals [x] us → ∃ u, us = [u] ∧ RelV x u
  | _, _, .cons r .nil => ⟨_, rfl, r⟩
theorem Vals.rep {xs : List V} {us : List Value} (h : Vals xs us) : ∀ k : Nat, Vals (List.replicate k xs).flatten (List.replicate k us).flatten
  | 0 => .nil
  | k + 1 => by
    rw [List.replicate_succ, List.replicate_succ, List.flatten_cons, List.flatten_cons]
    exact Vals.append h (Vals.rep h k)
theorem foldl_rep (its : List Value) : ∀ (k : Nat) (acc : List Value),
    List.foldl (fun x1 x2 => x1 ++ x2) acc.toArray (List.replicate k its.toArray) = (acc ++ (List.replicate k its).flatten).toArray
  | 0, acc => by simp
  | k + 1, acc => by
    have e : acc.toArray ++ its.toArray = (acc ++ its).toArray := by simp
    have e2 : (acc ++ its) ++ (List.replicate k its).flatten = acc ++ (List.replicate (k + 1) its).flatten := by
      rw [List.replicate_succ, List.flatten_cons, List.append_assoc]
    rw [← e2, ← foldl_rep its k (acc ++ its), ← e, List.replicate_succ, List.foldl_cons]
section
variable {X : Cx} {pins : List (Addr × Obj)} {σ : St} {H : Hp} {s : Shared} {l b : Addr} {xs ys zs : List V}
theorem Inv.lset {its its' : List Value} {n : Nat} {f : Array Value → Array Value} {t' : Nat} (I : Inv X pins σ H s) (hH : H l = some (.lst xs))
    (e : s.heap.get? l = some { cls := .type "list", data := .seq its.toArray n }) (hf : f its.toArray = its'.toArray) (hv : Vals ys its') (hz : ys.length ≤ sizeLine) :
    Inv X pins σ (upd H l (.lst ys)) { s with heap := s.heap.update l (Obj.mapSeq f), toks := t' } := by
  have q := PySem.IsL.update e f
  rw [hf] at q
  refine I.write (x := l) (e := l) (by rw [hH]; exact trivial) (.inl rfl) (fun b' u hb hu => (Heap.get?_update_other s.heap (Obj.mapSeq f) (Ne.symm hb)).trans hu) ⟨_, q⟩ ?_
  exact ⟨hz, its', _, hv, q⟩
theorem Inv.lnew {its : List Value} {t' : Nat} (I : Inv X pins σ H s) (hv : Vals ys its) (hz : ys.length ≤ sizeLine) :
    Inv X pins σ (upd H s.heap.objs.size (.lst ys)) { s with heap := s.heap.push { cls := .type "list", data := .seq its.toArray }, toks := t' } :=
  I.laid (fun _ _ q => Heap.get?_push_of_some _ q) (Nat.le_refl _) ⟨hz, its, 0, hv, Heap.get?_push_size _ rfl⟩
theorem Inv.fresh (I : Inv X pins σ H s) : H s.heap.objs.size = none := I.hok.fresh (Nat.le_refl _)
theorem Inv.lstM (I : Inv X pins σ H s) (hH : H l = some (.lst xs)) : xs.length ≤ sizeLine ∧ ∃ (its : List Value) (n : Nat), Vals xs its ∧ xs.length = its.length ∧ s.heap.get? l = some { cls := .type "list", data := .seq its.toArray n } := by
  obtain ⟨z, its, n, r, e⟩ := I.hok l _ hH
  exact ⟨z, its, n, r, r.length, e⟩
theorem notLongL {n : Nat} (h : n ≤ sizeLine) : Builtin.List.listTooLong n = false := by
  unfold Builtin.List.listTooLong
  exact decide_eq_false (by omega)
end
section
variable {X : Cx}
def rAppend : V → List V → Hp → VK → Prop := fun x vs H Q => ∃ l xs y, x = .ref l ∧ vs = [y] ∧ H l = some (.lst xs) ∧ xs.length < sizeLine ∧ Q .non (upd H l (.lst (xs ++ [y])))
theorem mt_append : MtM X "list.append" rAppend := by
  intro pins s σ H x vs v us Q I rx rv h
  obtain ⟨l, xs, y, rfl, rfl, hH, hz, q⟩ := h
  cases rx
  obtain ⟨u, rfl, ru⟩ := rv.one
  obtain ⟨z, its, n, r, hl, e⟩ := I.lstM hH
  refine call_meets F.slot_list_append ⟨_, e, rfl⟩ F.entry_list_append (F.args_list_append_2 _ _) (PySem.list_append l its.toArray n u (by rw [List.size_toArray]; omega)) ⟨e, ?_⟩
  refine ⟨.non, _, I.lset (its' := its ++ [u]) hH e (by simp) (r.append (.cons ru .nil)) ?_, rfl, q⟩
  rw [List.length_append, List.length_singleton]
  omega
def rRep : R2 := fun x y H Q => ∃ l k xs, x = .ref l ∧ y = .int k ∧ H l = some (.lst xs) ∧ -(2 ^ 63) ≤ k ∧ k < 2 ^ 63 ∧ xs.length * k.toNat ≤ sizeLine ∧
  ∀ p, H p = none → Q (.ref p) (upd H p (.lst (List.replicate k.toNat xs).flatten))
theorem len_rep {α : Type} (xs : List α) (k : Nat) : (List.replicate k xs).flatten.length = k * xs.length := by
  induction k with
  | zero => simp
  | succ k ih => rw [List.replicate_succ, List.flatten_cons, List.length_append, ih, Nat.succ_mul, Nat.add_comm]
theorem op_rep : OpR X (binaryOp .Mult) rRep := by
  intro pins s σ H x y v u Q I rx ry h
  obtain ⟨l, k, xs, rfl, rfl, hH, h1, h2, hz, q⟩ := h
  cases rx
  obtain ⟨t, rfl⟩ := ry
  obtain ⟨z, its, n, r, hl, e⟩ := I.lstM hH
  have hlen : its.toArray.size * k.toNat ≤ sizeLine := by rw [List.size_toArray, ← hl]; exact hz
  have hcap : ¬ its.toArray.size * k.toNat > (2 ^ 63 - 1) / 8 := by
    have : (sizeLine : Nat) ≤ (2 ^ 63 - 1) / 8 := by decide
    omega
  have hfit : ¬ (!Builtin.List.listFitsIndex k) = true := by
    rw [fitsIndex_both h1 h2]
    exact Bool.false_ne_true
  have hlong : ¬ Builtin.List.listTooLong (its.toArray.size * k.toNat) = true := by
    rw [notLongL hlen]
    exact Bool.false_ne_true
  have hnew : List.foldl (fun x1 x2 => x1 ++ x2) #[] (List.replicate (if its.toArray.isEmpty = true then 0 else k.toNat) its.toArray) = (List.replicate k.toNat its).flatten.toArray := by
    have f0 : ∀ m : Nat, List.foldl (fun x1 x2 => x1 ++ x2) #[] (List.replicate m its.toArray) = (List.replicate m its).flatten.toArray := fun m => by
      have := foldl_rep its m []
      rw [List.nil_append] at this
      exact this
    rw [f0]
    cases its with
    | nil => simp
    | cons a r' => rw [if_neg (by simp)]
  refine wpAny_binaryOp_repeat_ref (T := "list") (U := "int") (by decide) ⟨_, e, rfl⟩ (fun s' => typeIs_int s' k t) noFill_list_mul F.fills_int_mul F.slot_int_rmul repeat_list F.slot_int_index.lookup
    (call_meets F.slot_int_rmul (typeIs_int s k t) F.entry_int_rmul (F.args_int_rmul_2 _ _) (int___rmul___int_list k t l its.toArray n)
      ⟨e, rfl, ⟨_, e, rfl⟩, call_meets F.slot_list_mul ⟨_, e, rfl⟩ F.entry_list_mul (F.args_list_mul_2 _ _) (AutoListH.list___mul___list_int_3 l its.toArray n k t hfit hcap hlong) ⟨e, ?_⟩⟩)
  rw [hnew]
  exact ⟨.ref _, _, I.lnew (t' := s.toks) (r.rep k.toNat) (by rw [len_rep, Nat.mul_comm]; exact hz), rfl, q _ I.fresh⟩
end
section
variable {prog : Program} {w : World} {A : Around} {E : Value → Shared → Prop} {s : Shared}
end
section
variable {X : Cx}
end
end L2
namespace Att
open PySem PySem.W PySem.Calls PyProof.Rows
theorem ints_of_wellAll {P : Params} {h : Heap} : ∀ (ns : List Int) (vs : List Value), WellAll P h vs (ns.map WData.int) → IntsAre vs ns := by
  intro ns
  induction ns with
  | nil =>
    intro vs w
    rw [List.map_nil] at w
    cases w
    exact .nil
  | cons n ns ih =>
    intro vs w
    rw [List.map_cons] at w
    cases w with
    | cons a b =>
      cases a
      exact .cons _ _ (ih _ b)
theorem script_of {l : OpenLaw} {n : Nat} (hn : l.most = some n) {P : Params} {h : Heap} {args : List WData} {vals : List Value}
    (hpre : l.row.toRowW.claim.pre args = true) (hwl : WellAll P h vals args) :
    ∃ a vs ns, vals = [Value.ref a] ∧ args = [WData.list (ns.map WData.int)] ∧ h.get? a = some { cls := .type "list", data := .seq vs.toArray } ∧ IntsAre vs ns ∧ ns.length ≤ n := by
  have hsh : WShape.hasAll [] args [.list .int] = true := (pre_splitW hpre).1
  have hc : l.pre.holds [] { args := args } = true := (pre_splitW hpre).2
  obtain ⟨d, r, rfl, h1, h2⟩ := hasAllW_cons hsh
  obtain rfl := hasAllW_nil h2
  obtain ⟨xs, rfl, h3⟩ := hasW_list h1
  obtain ⟨ns, rfl⟩ := items_int h3
  have hlen : ns.length ≤ n := by
    unfold OpenLaw.pre at hc
    have h4 : (WTm.not (.lt (.lit (.int (n : Int))) (.len (.arg 0)))).holds [] { args := [.list (ns.map .int)] } = true := by
      have h4 := (holds_andW hc).1
      rw [hn] at h4
      exact h4
    have h5 := condW_of h4 (w_not (w_lt w_lit (w_len_list (w_arg rfl))))
    rw [List.length_map] at h5
    refine Nat.le_of_not_lt fun q => ?_
    have q' : (n : Int) < ((ns.length : Nat) : Int) := by omega
    first
      | (rw [decide_eq_true q'] at h5; exact absurd h5 (by decide))
      | (simp at h5; omega)
  cases hwl with
  | cons w1 w2 =>
    cases w2
    cases w1 with
    | list ho hall => exact ⟨_, _, ns, rfl, rfl, ho, ints_of_wellAll ns _ hall, hlen⟩
theorem post_true (l : OpenLaw) (args : List WData) : l.row.toRowW.claim.post args (.bool true) args = true :=
  postW_of (r := l.row.toRowW) (X := (true == true))
    (show WShape.has [] (.bool true) .bool = true by first | rfl | decide | simp [WShape.has, WShape.arms, WShape.armsAll])
    (show (WTm.eq .res (.lit (.bool true))).value [] { args := args, res := some (.bool true), after := args } = some (.bool (true == true)) from w_eq_bool (w_res rfl) w_lit) rfl
section
variable {prog : Program} {w : World} {A : Around} {E : Value → Shared → Prop} {s : Shared} {K : Frag}
def ledger (h : Heap) (L d : Addr) : List (Addr × Obj) := (List.range h.objs.size).filterMap fun a => if a = L ∨ a = d then none else (h.get? a).map fun o => (a, o)
end
end Att
namespace L2
open PySem PySem.Spec PyProof.Rows
theorem vals_ints : ∀ {vs : List Value} {ns : List Int}, IntsAre vs ns → Vals (ns.map V.int) vs
  | _, _, .nil => .nil
  | _, _, .cons n t h => .cons ⟨t, rfl⟩ (vals_ints h)
end L2
namespace L2
open PySem PySem.Spec PyProof.Rows
abbrev KOf {K : PySem.W.Frag} {h : Heap} (_ : K.In h) : PySem.W.Frag := K
end L2
namespace L2
open PySem PySem.Spec PyProof.Rows
def defArgs (s : Stmt) : Arguments := match s with
  | .FunctionDef _ a _ _ _ _ _ _ _ _ => a
  | _ => { posonlyargs := [], args := [], vararg := none, kwonlyargs := [], kw_defaults := [], kwarg := none, defaults := [] }
def defBody (s : Stmt) : List Stmt := match s with
  | .FunctionDef _ _ b _ _ _ _ _ _ _ => b
  | _ => []
def defScope (s : Stmt) : Scope := match s with
  | .FunctionDef _ _ _ _ _ _ sc _ _ _ => sc
  | _ => { kind := .function, names := [], isGenerator := false, isCoroutine := false }
abbrev CX0 : CXT := fun _ _ _ _ _ _ => False
abbrev E0 : XK := fun _ _ _ => False
theorem pass0 {X : Cx} : Passes CX0 X E0 := fun _ _ _ _ _ _ _ h => h.elim
structure Fun (K : PySem.W.Frag) (x qual : Str) (st : Stmt) (f : Addr) (fd : FuncData) : Prop where
  ex : ∃ (oc : Value) (od : Option Addr) (kV doc pm : Value) (an : Option Addr) (cdv ct : Value) (osl : Array (Option Value)),
    fd = PySem.W.fnOf x qual (defArgs st) (defBody st) (defScope st) .none kV doc pm an cdv ct ∧ K.lookup f = some ⟨oc, od, .func fd, osl⟩ ∧ PySem.W.codeIn K cdv qual = true
  kp : PySem.W.keepIn K (.ref f) = true
section
variable {P : Program} {w : World} {K : PySem.W.Frag} {mg : Str → Option Value} {base : Heap}
theorem Fun.ok {x qual : Str} {st : Stmt} {f : Addr} {fd : FuncData} {N ps : List Str} {k : Nat} {sp : Sp} (F : Fun K x qual st f fd) (S : FnScope N ps (defScope st)) (len : ∀ vs H Q E, sp vs H Q E → vs.length = ps.length)
    (hbody : ∀ (cdv : Value) (A : Around) (outer : List Env) (s : Shared) (H : Hp) (vs : List V) (Q : VK) (E : XK), Room k (A.deeper (envOfC qual (defScope st) s.heap.objs.size f cdv)) → sp vs H Q E →
      ∃ t, PSs (cxOf CX0 P w K mg base N qual (defScope st) f cdv A outer s H E).nox (defBody st) t ∧ t { nx := fun _ H' => Q .non H', rt := Q } (start N vs) H) : FnOk P w K mg base CX0 (k + 1) f fd ps sp := by
  obtain ⟨oc, od, kV, doc, pm, an, cdv, ct, osl, rfl, lk, hcd⟩ := F.ex
  refine fn_of lk hcd S len fun A outer s H vs Q E hr hsp => ?_
  obtain ⟨t, h, q⟩ := hbody cdv A outer s H vs Q E hr hsp
  exact ⟨t, h.nox, q⟩
theorem Fun.binds {x qual : Str} {st : Stmt} {f : Addr} {fd : FuncData} {ps : List Str} (F : Fun K x qual st f fd)
    (h : ∀ (kV doc pm : Value) (an : Option Addr) (cdv ct : Value) (us : List Value), us.length = ps.length → bindArgs (PySem.W.fnOf x qual (defArgs st) (defBody st) (defScope st) .none kV doc pm an cdv ct) ⟨us, []⟩ = pure (ps.zip us)) : Binds K fd ps [] := by
  obtain ⟨oc, od, kV, doc, pm, an, cdv, ct, osl, rfl, lk, hcd⟩ := F.ex
  exact .all (h kV doc pm an cdv ct)
theorem fun_mk {x qual : Str} {st : Stmt} {f : Addr} {oc : Value} {od an : Option Addr} {osl : Array (Option Value)} {kV doc pm cdv ct : Value} (l : K.lookup f = some ⟨oc, od, .func (PySem.W.fnOf x qual (defArgs st) (defBody st) (defScope st) .none kV doc pm an cdv ct), osl⟩)
    (c : PySem.W.codeIn K cdv qual = true) (k : PySem.W.keepIn K (.ref f) = true) : Fun K x qual st f (PySem.W.fnOf x qual (defArgs st) (defBody st) (defScope st) .none kV doc pm an cdv ct) := ⟨⟨oc, od, kV, doc, pm, an, cdv, ct, osl, rfl, l, c⟩, k⟩
end
section
variable {X : Cx}
theorem pv (i : Nat) {x : Str} {pos : Pos} (hN : X.N[i]? = some x := by rfl) (hv : Vis X.env.scope x := by first | exact Or.inl rfl | exact Or.inr (Or.inl rfl) | exact Or.inr (Or.inr rfl)) (hd : (x == ("__debug__" : Str)) = false := by decide)
    (hcd : (x == ("__classdict__" : Str)) = false := by decide) : PE X (.Name x pos) (tVar i) := pe_var hN hv hd hcd
end
theorem iteF {A B : Prop} (h : B) : if false = true then A else B := by
  rw [if_neg Bool.false_ne_true]
  exact h
theorem iteT {A B : Prop} (h : A) : if true = true then A else B := by
  rw [if_pos rfl]
  exact h
def Same (H H' : Hp) : Prop := ∀ b o, H b = some o → H' b = some o
theorem Same.refl (H : Hp) : Same H H := fun _ _ h => h
theorem Same.trans {H H1 H2 : Hp} (a : Same H H1) (b : Same H1 H2) : Same H H2 := fun c o h => b c o (a c o h)
theorem Same.free {H H' : Hp} (e : Same H H') {l : Addr} (h : H' l = Option.none) : H l = Option.none := by
  cases q : H l with
  | none => rfl
  | some o =>
    rw [e l o q] at h
    cases h
end L2
namespace L2
open PySem PySem.Spec PyProof.Rows
section
variable {X : Cx}
theorem op_mulB : OpR X (binaryOp .Mult) (rI IntMulOk fun i j => .int (i * j)) := opI fun _ _ _ _ _ _ _ hc q => mul_int q hc
theorem call_isi : CallR X (.builtin "isinstance") (fun xs H Q => ∃ x n t b, xs = [x, .ty n] ∧ TyOf X.K H x t ∧ PySem.W.kitOne X.K t (.type n) = some b ∧ Q (.bl b) H) := by
  intro pins s σ H xs us Q I r h
  obtain ⟨x, n, t, b, rfl, ty, e, q⟩ := h
  obtain ⟨u, w', rfl, rx, ry⟩ := vals2 r
  cases ry
  exact isinst_ok I rx ty e fun tk => ⟨.bl b, H, I.tok _, rfl, q⟩
theorem range_all_eq {α : Type} [DecidableEq α] {ns ms : List α} (d : α) (h : ns.length = ms.length) : ((List.range ns.length).all fun j => decide (ns.getD j d = ms.getD j d)) = decide (ns = ms) := by
  rw [Bool.eq_iff_iff, List.all_eq_true, decide_eq_true_iff]
  constructor
  · intro H
    refine List.ext_getElem h fun i h1 h2 => ?_
    have := of_decide_eq_true (H i (List.mem_range.mpr h1))
    rw [List.getD_eq_getElem?_getD, List.getD_eq_getElem?_getD, List.getElem?_eq_getElem h1, List.getElem?_eq_getElem h2] at this
    exact this
  · rintro rfl i _
    simp
theorem eqAt_items {α : Type} [DecidableEq α] {A : Around} {s : Shared} {us ws : List Value} {ns ms : List α} {d : α} (hl : us.length = ns.length) (hl2 : ws.length = ms.length)
    (h : ∀ (j : Nat) (u v : Value) (a b : α), us[j]? = some u → ws[j]? = some v → ns[j]? = some a → ms[j]? = some b → SeqAt.EqAt A s u v (decide (a = b))) :
    ∀ j (h1 : j < us.toArray.size) (h2 : j < ws.toArray.size), SeqAt.EqAt A s us.toArray[j] ws.toArray[j] (decide (ns.getD j d = ms.getD j d)) := by
  intro j h1 h2
  have h1' : j < us.length := by simpa using h1
  have h2' : j < ws.length := by simpa using h2
  have q := h j us[j] ws[j] ns[j] ms[j] (List.getElem?_eq_getElem h1') (List.getElem?_eq_getElem h2') (List.getElem?_eq_getElem (by omega)) (List.getElem?_eq_getElem (by omega))
  have e1 : ns.getD j d = ns[j] := by rw [List.getD_eq_getElem?_getD, List.getElem?_eq_getElem (by omega)]; rfl
  have e2 : ms.getD j d = ms[j] := by rw [List.getD_eq_getElem?_getD, List.getElem?_eq_getElem (by omega)]; rfl
  rw [e1, e2]
  simpa using q
theorem rcAt_lists {α : Type} [DecidableEq α] [Inhabited α] {A : Around} {s : Shared} {l b : Addr} {us ws : List Value} {ns ms : List α} (p1 : s.heap.IsList l us.toArray) (p2 : s.heap.IsList b ws.toArray) (hl : us.length = ns.length) (hl2 : ws.length = ms.length) (hu : A.units < cLine)
    (h : ∀ (j : Nat) (u v : Value) (a b : α), us[j]? = some u → ws[j]? = some v → ns[j]? = some a → ms[j]? = some b → SeqAt.EqAt A.in1 s u v (decide (a = b))) :
    SeqAt.RcAt A s (.ref l) (.ref b) (decide (ns = ms)) := by
  by_cases hs : ns.length = ms.length
  · have q := SeqAt.RcAt.lists (e := fun j => decide (ns.getD j default = ms.getD j default)) p1 p2 (by simp; omega) hu (eqAt_items hl hl2 h)
    have e : ((List.range us.toArray.size).all fun j => decide (ns.getD j default = ms.getD j default)) = decide (ns = ms) := by
      rw [List.size_toArray, hl]; exact range_all_eq default hs
    rw [e] at q
    exact q
  · have q := SeqAt.RcAt.lists_lengths p1 p2 (by simp; omega) hu
    have e : decide (ns = ms) = false := decide_eq_false fun z => hs (by rw [z])
    rw [e]
    exact q
theorem rcNeAt_lists {α : Type} [DecidableEq α] [Inhabited α] {A : Around} {s : Shared} {l b : Addr} {us ws : List Value} {ns ms : List α} (p1 : s.heap.IsList l us.toArray) (p2 : s.heap.IsList b ws.toArray) (hl : us.length = ns.length) (hl2 : ws.length = ms.length) (hu : A.units < cLine)
    (h : ∀ (j : Nat) (u v : Value) (a b : α), us[j]? = some u → ws[j]? = some v → ns[j]? = some a → ms[j]? = some b → SeqAt.EqAt A.in1 s u v (decide (a = b))) :
    SeqAt.RcNeAt A s (.ref l) (.ref b) (!decide (ns = ms)) := by
  by_cases hs : ns.length = ms.length
  · have q := SeqAt.RcNeAt.lists (e := fun j => decide (ns.getD j default = ms.getD j default)) p1 p2 (by simp; omega) hu (eqAt_items hl hl2 h)
    have e : ((List.range us.toArray.size).all fun j => decide (ns.getD j default = ms.getD j default)) = decide (ns = ms) := by
      rw [List.size_toArray, hl]; exact range_all_eq default hs
    rw [e] at q
    exact q
  · have q := SeqAt.RcNeAt.lists_lengths p1 p2 (by simp; omega) hu
    have e : decide (ns = ms) = false := decide_eq_false fun z => hs (by rw [z])
    rw [e]
    exact q
end
open PySem.W in
theorem bits_of_lay {ns : List Int} (h : WData.layableAll [WData.list (ns.map WData.int)] = true) : ∀ n ∈ ns, Builtin.Int.intBits n ≤ 1048576 := by
  have w : WData.weight (.list (ns.map WData.int)) ≤ 2 ^ 20 := by
    unfold WData.layableAll WData.layable at h
    simp only [List.all_cons, List.all_nil, Bool.and_true, Bool.and_eq_true, decide_eq_true_eq] at h
    exact h.2
  have key : ∀ (ms : List Int), ∀ n ∈ ms, Builtin.Int.intBits n ≤ WData.weightAll (ms.map WData.int) := by
    intro ms
    induction ms with
    | nil => intro n hn; cases hn
    | cons m ms ih =>
      intro n hn
      rw [List.map_cons, WData.weightAll]
      rcases List.mem_cons.mp hn with rfl | hn
      · have e : WData.weight (.int n) = Builtin.Int.intBits n := by simp [WData.weight, Builtin.Int.intBits]
        omega
      · have := ih n hn
        omega
  intro n hn
  have q := key ns n hn
  have e : WData.weight (.list (ns.map WData.int)) = WData.weightAll (ns.map WData.int) := by simp [WData.weight]
  rw [e] at w
  exact Nat.le_trans q w
end L2
namespace L2
open PySem PySem.Spec PyProof.Rows
def compCx (X : Cx) (N' : List Str) (scope : Scope) (cl : List (Str × Addr)) (C : Addr) (s3 : Shared) (H3 : Hp) (fp : List Addr) (pins : List (Addr × Obj)) : Cx :=
  { X with N := N', s₀ := s3, H₀ := H3, env := compEnvC scope cl C X.env, outer := X.stack, stack := X.stack, ex := fp, fn := fun _ => false, pn := X.pn ++ pins, xe := fun _ _ => False }
structure Frees (X : Cx) (N' : List Str) (scope : Scope) (cl : List (Str × Addr)) (σ σ0 : St) : Prop where
  sub : ∀ x c, cl.lookup x = some c → X.env.cells.lookup x = some c
  vals : ∀ (j : Nat) (x : Str) (v : V), N'[j]? = some x → σ0[j]? = some (some v) → ∃ (i : Nat) (c : Addr), X.N[i]? = some x ∧ σ[i]? = some (some v) ∧ Vis X.env.scope x ∧ X.env.kindOf x ≠ some .local ∧ cl.lookup x = some c ∧
    ((relabel scope X.env).names.lookup x = some .cell ∨ (relabel scope X.env).names.lookup x = some .free)
  has : ∀ x, ((relabel scope X.env).names.lookup x = some .cell ∨ (relabel scope X.env).names.lookup x = some .free) → ∃ c, cl.lookup x = some c
  len : σ0.length = N'.length
section
variable {prog : Program} {w : World} {A : Around} {R : Result → Shared → Prop} {s : Shared}
theorem compLoop_gen {elt target iter : Expr} {ifs : List Expr} {scope : Scope} {pos : Pos} {it acc : Value} {env : Env} (I : Nat → Shared → Prop)
    (turn : ∀ n s, I n s → wpAny (model prog w) A (pyNext it) (fun r s₁ => match r with
      | none => R (.ok .next) s₁
      | some v => wpAny (model prog w) A (letOwnedTupleGo target it v) (fun _ s₀ => wpAny (model prog w) A (assign target env v) (fun _ s₂ =>
          wpAny (model prog w) A (forIn ifs true fun c r => if r = true then do let ok ← isTrue c env (eval c env); pure (ForInStep.yield ok) else pure (ForInStep.yield r)) (fun ok s₃ =>
            if ok = true then wpAny (model prog w) A (eval elt env) (fun x s₄ =>
              wpAny (model prog w) A (call (.builtin "list.append") [acc, x]) (fun _ s₅ => ∃ m, m < n ∧ I m s₅) (fun _ _ => False) s₄) (fun _ _ => False) s₃
            else ∃ m, m < n ∧ I m s₃) (fun _ _ => False) s₂) (fun _ _ => False) s₀) (fun _ _ => False) s₁) (fun _ _ => False) s)
    (n : Nat) (h : I n s) :
    codeAny (model prog w) A (.compLoop (.ListComp elt [⟨target, iter, ifs, 0⟩] scope pos) 0 it acc env) R s := by
  refine codeAny_loop rfl I (fun n s hI => ?_) n h
  show wpAny _ A ((compTurn (.ListComp elt [⟨target, iter, ifs, 0⟩] scope pos) 0 it acc env).onRaise (fun x => do noteFrame x env; theTreesLotGoes x)) _ _ s
  refine wpAny_noted ?_
  rw [compTurn_list]
  refine wpAny_bind (wpAny_standAt (wpAny_bind (wpAny_mono (turn n s hI) (fun r s₁ h₁ => ?_) fun _ _ h' => h'.elim)))
  cases r with
  | none => exact wpAny_pure h₁
  | some v =>
    refine wpAny_bind (wpAny_mono h₁ (fun _ s₀ h₀ => ?_) fun _ _ h' => h'.elim)
    refine wpAny_bind (wpAny_mono h₀ (fun _ s₂ h₂ => wpAny_bind (wpAny_mono h₂ (fun ok s₃ h₃ => ?_) fun _ _ h' => h'.elim)) fun _ _ h' => h'.elim)
    cases ok with
    | false => exact wpAny_pure ⟨rfl, h₃⟩
    | true =>
      exact wpAny_bind (wpAny_bind (wpAny_mono h₃ (fun x s₄ h₄ => wpAny_bind (wpAny_mono h₄ (fun _ s₅ h₅ => wpAny_pure (wpAny_pure ⟨rfl, h₅⟩)) fun _ _ h' => h'.elim)) fun _ _ h' => h'.elim))
end
def compW (J : It) (g : TG) (tt : TT) (te : TE) (σ0 : St) (H1 : Hp) (Q : VK) : Prop := ∀ D, H1 D = none → ∃ W : Nat → Nat → List V → Hp → Prop, (∃ m, W 0 m [] (upd H1 D (.lst []))) ∧
  ∀ i m ys H, W i m ys H → (J.stop i H ∧ H D = some (.lst ys) ∧ Q (.ref D) H) ∨
    (J.go i H ∧ ∀ x H', J.yld i H x H' → g x σ0 H' fun σ2 H2 => tt σ2 H2 fun c H3 =>
      if c = true then te σ2 H3 fun v H4 => H4 D = some (.lst ys) ∧ ys.length < sizeLine ∧ ∃ m', m' < m ∧ W (i + 1) m' (ys ++ [v]) (upd H4 D (.lst (ys ++ [v])))
      else ∃ m', m' < m ∧ W (i + 1) m' ys H3)
def Keepg (g : TG) (σ0 : St) : Prop := ∀ x H (Q : St → Hp → Prop), g x σ0 H Q → g x σ0 H fun σ2 H2 => Q σ2 H2 ∧ σ2.length = σ0.length ∧ ∀ (j : Nat) v, σ0[j]? = some (some v) → σ2[j]? = some (some v)
section
variable {X : Cx} {tg elt iter : Expr} {ifs : List Expr} {scope : Scope} {cl : List (Str × Addr)} {N' : List Str} {σ0 : St → St} {g : TG} {tt : TT} {te : TE}
theorem comp_block {pos : Pos} {pins : List (Addr × Obj)} {σ : St} {H1 : Hp} {s2 : Shared} {it : Addr} {fp : List Addr} {tn : Nat → Heap → Prop} {J : It} {Q : VK} {RR : Value → Addr → Result → Shared → Prop}
    (hc : X.calm = true) (hcell : ∀ y ∈ scope.names, y.2 ≠ .cell) (hkind : scope.kind = .function)
    (I : Inv X pins σ H1 s2) (T : Turn X.prog X.w X.K tg J fp it tn) (st : tn 0 s2.heap) (hfp : ∀ b ∈ fp, FpOk X pins H1 b) (fr : Frees X N' scope cl σ (σ0 σ)) (hk : Keepg g (σ0 σ))
    (hg : ∀ C s3 H3 fp pins, PG (compCx X N' scope cl C s3 H3 fp pins) tg g)
    (ht : ∀ C s3 H3 fp pins (pl : List (Addr × Obj)) (s : Shared) (σ : St) (H : Hp) (Q : Bool → Hp → Prop), Inv (compCx X N' scope cl C s3 H3 fp pins) pl σ H s → tt σ H Q →
      wpAny (model X.prog X.w) X.A (forIn ifs true fun c r => if r = true then do let ok ← isTrue c (compEnvC scope cl C X.env) (eval c (compEnvC scope cl C X.env)); pure (ForInStep.yield ok) else pure (ForInStep.yield r)) (TP (compCx X N' scope cl C s3 H3 fp pins) pl σ Q) (fun _ _ => False) s)
    (he : ∀ C s3 H3 fp pins, PE (compCx X N' scope cl C s3 H3 fp pins) elt te) (hw : compW J g tt te (σ0 σ) H1 Q)
    (hRR : ∀ D C s' H' m, Inv X pins σ H' s' → s'.heap.Ns C m → H' C = none → C ≠ X.env.locals → X.s₀.heap.objs.size ≤ C → (∀ x c, X.env.cells.lookup x = some c → c ≠ C) → (∀ p ∈ X.pn ++ pins, p.1 ≠ C) → Q (.ref D) H' → RR (.ref D) C (.ok .next) s') :
    wpAny (model X.prog X.w) X.A (newList []) (fun acc s₃ => wpAny (model X.prog X.w) X.A (newFunctionEnv scope X.env.globals cl [] X.env.qual none .none (some X.env)) (fun cenv s₄ =>
      codeAny (model X.prog X.w) X.A (.compStart (.ListComp elt [⟨tg, iter, ifs, 0⟩] scope pos) 0 (.ref it) acc { cenv with scope := relabel scope X.env }) (RR acc cenv.locals) s₄) X.xe s₃) X.xe s2 := by
  refine wpAny_newObj_type (hd := by size_fits) (wpAny_newFunctionEnv hcell (by intro y hy; simp at hy) (fun h₁ hns₁ hsb₁ => ?_) hkind)
  dsimp only at hns₁ hsb₁ ⊢
  have I3 : Inv X pins σ (upd H1 s2.heap.objs.size (.lst [])) { s2 with heap := s2.heap.push { cls := .type "list", dict := none, data := .seq ([] : List Value).toArray } } := I.lnew (t' := s2.toks) (its := []) (ys := []) .nil (Nat.zero_le _)
  obtain ⟨W, ⟨m0, w0⟩, turn⟩ := hw s2.heap.objs.size I.fresh
  have hfpo := T.obj 0 _ st
  have fpl : ∀ b ∈ fp, b < s2.heap.objs.size := fun b hb => by
    obtain ⟨o, e, _⟩ := hfpo b hb
    exact Heap.lt_size e
  have fD : ∀ b ∈ fp, upd H1 s2.heap.objs.size (.lst []) b = none := fun b hb => by
    rw [upd_ne (Nat.ne_of_lt (fpl b hb))]
    exact (hfp b hb).1
  generalize hs3 : ({ s2 with heap := s2.heap.push { cls := .type "list", dict := none, data := .seq ([] : List Value).toArray } } : Shared) = s3 at I3
  have es3 : s3.heap = s2.heap.push { cls := .type "list", dict := none, data := .seq ([] : List Value).toArray } := by rw [← hs3]
  have st3 : tn 0 s3.heap := T.keep _ _ _ st fun b hb o e => by rw [es3]; exact Heap.get?_push_of_some _ e
  rw [← es3] at hns₁ hsb₁ ⊢
  have sz3 : s2.heap.objs.size < s3.heap.objs.size := by rw [es3, Heap.size_push]; exact Nat.lt_succ_self _
  generalize upd H1 s2.heap.objs.size (.lst []) = H3 at I3 fD w0
  have old : ∀ b o, s3.heap.get? b = some o → h₁.get? b = some o := fun b o e => hsb₁.extBut b o (Nat.ne_of_lt (Heap.lt_size e)) (Heap.get?_push_of_some _ e)
  have fpl3 : ∀ b ∈ fp, b < s3.heap.objs.size := fun b hb => Nat.lt_trans (fpl b hb) sz3
  have stk : ∀ b ∈ fp, b ∉ frs X.stack := fun b hb z => by
    rcases List.mem_cons.mp (I3.stkSub b z) with e | e
    · exact (hfp b hb).2.1 e
    · exact (hfp b hb).2.2.1 e
  -- the block's own state
  have ok : (compCx X N' scope cl s3.heap.objs.size s3 H3 fp pins).Ok := by
    refine ⟨I3.ok.mod, hkind, I3.ok.glob, I3.ok.blt, Nat.le_refl _, fun x y c h1 h2 => I3.ok.inj x y c (fr.sub x c h1) (fr.sub y c h2), fun x h => fr.has x h, fun x c h _ => (by cases h), I3.ok.hd, I3.ok.frames, .inl rfl,
      fun b hb => ⟨Nat.ne_of_lt (fpl3 b hb), fun x c e => (hfp b hb).2.2.2.2.1 x c (fr.sub x c e)⟩, I3.bs, Nat.le_trans I3.ok.bsz I3.sz, fun b o e hb => ?_, fun b hb => stk b hb, I3.stack, I3.stkFree⟩
    rcases (hfp b hb).2.2.2.1 with z | z
    · exact I3.ok.noex b o e z
    · have l1 : b < X.base.objs.size := Heap.lt_size e
      have l2 : X.base.objs.size ≤ X.s₀.heap.objs.size := I3.ok.bsz
      have l3 : X.s₀.heap.objs.size ≤ b := z
      exact absurd (Nat.lt_of_lt_of_le l1 (Nat.le_trans l2 l3)) (Nat.lt_irrefl _)
  have lt3 : X.env.locals < s3.heap.objs.size := I3.lt
  have start : Inv (compCx X N' scope cl s3.heap.objs.size s3 H3 fp pins) [] (σ0 σ) H3 { s3 with heap := h₁ } := by
    refine ⟨ok, rfl, I3.bare, Un.kept old, ⟨_, hns₁, fun j x v e1 e2 _ => ?_⟩, fun x c e => ?_, I3.hok.fresh (Nat.le_refl _), fun x c e => I3.freeC x c (fr.sub x c e), fun p hp => ?_, I3.hok.kept old, fr.len⟩
    · obtain ⟨i, c, q1, q2, q3, q4, q5, q6⟩ := fr.vals j x v e1 e2
      obtain ⟨m, hn, hl⟩ := I3.loc
      obtain ⟨u, r, l⟩ := hl i x v q1 q2 q3
      refine ⟨u, r, .inr ⟨q6, c, q5, ?_⟩⟩
      rcases l with ⟨k, _⟩ | ⟨_, c', e', z⟩
      · exact absurd k q4
      · rw [fr.sub x c q5] at e'
        cases e'
        obtain ⟨o, ho, hd⟩ := z
        exact ⟨o, old _ _ ho, hd⟩
    · obtain ⟨v, o, ho, hd⟩ := I3.cell x c (fr.sub x c e)
      exact ⟨v, o, old _ _ ho, hd⟩
    · have hp' : p ∈ X.pn ++ pins := by simpa [compCx] using hp
      obtain ⟨e, n, ne, nf, d⟩ := I3.pin p hp'
      refine ⟨old _ _ e, n, Nat.ne_of_lt (Heap.lt_size e), fun z => ?_, d⟩
      rcases List.mem_cons.mp (I3.stkSub p.1 z) with q | q
      · exact ne q
      · exact nf q
  have hst₁ : tn 0 h₁ := T.keep _ _ _ st3 fun b _ o e => old b o e
  have fpok : ∀ {H' : Hp}, (∀ b ∈ fp, H' b = none) → ∀ b ∈ fp, FpOk (compCx X N' scope cl s3.heap.objs.size s3 H3 fp pins) [] H' b := fun {H'} hn b hb =>
    ⟨hn b hb, Nat.ne_of_lt (fpl3 b hb), stk b hb, .inl hb, fun x c e => (hfp b hb).2.2.2.2.1 x c (fr.sub x c e), fun p hp => (hfp b hb).2.2.2.2.2 p (by simpa [compCx] using hp)⟩
  have loop : codeAny (model X.prog X.w) X.A (.compLoop (.ListComp elt [⟨tg, iter, ifs, 0⟩] scope pos) 0 (.ref it) (.ref s2.heap.objs.size) (compEnvC scope cl s3.heap.objs.size X.env)) (RR (.ref s2.heap.objs.size) s3.heap.objs.size) { s3 with heap := h₁ } := by
    refine compLoop_gen (fun n s' => ∃ i ys H', Inv (compCx X N' scope cl s3.heap.objs.size s3 H3 fp pins) [] (σ0 σ) H' s' ∧ tn i s'.heap ∧ (∀ b ∈ fp, H' b = none) ∧ W i n ys H') ?_ m0 ⟨0, [], H3, start, hst₁, fD, w0⟩
    rintro n s4 ⟨i, ys, H4, I4, st4, fr4, w4⟩
    rcases turn i n ys H4 w4 with ⟨stop, eD, q⟩ | ⟨go, step⟩
    · refine thn (T.done (compCx X N' scope cl s3.heap.objs.size s3 H3 fp pins) rfl rfl rfl hc i [] s4 _ H4 _ I4 (fpok fr4) st4 stop) fun r s5 ⟨hr, I5⟩ => ?_
      subst hr
      obtain ⟨m5, n5, _⟩ := I5.loc
      have J5 : Inv X pins σ H4 s5 := I3.call' I5.os I5.base I5.hok I5.bare fun b hb => ⟨(hfp b hb).2.2.2.1, (hfp b hb).2.1, (hfp b hb).2.2.2.2.1, (hfp b hb).2.2.2.2.2⟩
      exact hRR _ _ s5 H4 m5 J5 n5 I5.free (Nat.ne_of_gt lt3) I3.sz (fun x c e z => by
        obtain ⟨v, o, ho, _⟩ := I3.cell x c e
        exact absurd (Heap.lt_size ho) (by rw [z]; exact Nat.lt_irrefl _)) (fun p hp z => by
        have e := (I3.pin p hp).1
        exact absurd (Heap.lt_size e) (by rw [z]; exact Nat.lt_irrefl _)) q
    · refine thn (T.item (compCx X N' scope cl s3.heap.objs.size s3 H3 fp pins) rfl rfl rfl hc i [] s4 _ H4 _ I4 (fpok fr4) st4 go) fun r s5 ⟨u, hr, h5⟩ => ?_
      subst hr
      refine thn h5 fun _ s6 ⟨x, H6, I6, r6, y6, st6, fr6⟩ => ?_
      have I6' := I6.pinned (fpok fr6) (T.obj _ _ st6)
      refine thn (hg _ _ _ _ _ _ s6 _ H6 x u _ I6' r6 (hk _ _ _ (step x H6 y6))) fun _ s7 ⟨σ7, H7, I7, q7, l7, k7⟩ => ?_
      have again : ∀ {s8 : Shared} {H8 : Hp} {m : Nat} {zs : List V}, Inv (compCx X N' scope cl s3.heap.objs.size s3 H3 fp pins) ([] ++ pinsAt fp s6.heap) σ7 H8 s8 → m < n → W (i + 1) m zs H8 →
          ∃ m, m < n ∧ ∃ i ys H', Inv (compCx X N' scope cl s3.heap.objs.size s3 H3 fp pins) [] (σ0 σ) H' s8 ∧ tn i s8.heap ∧ (∀ b ∈ fp, H' b = none) ∧ W i m ys H' := fun {s8 H8 m zs} I8 hm w8 => by
        refine ⟨m, hm, i + 1, zs, H8, (Inv.unpinned I8).weak l7.symm k7, T.keep _ _ _ st6 fun b hb o e => (I8.pin (b, o) (List.mem_append_right _ (List.mem_append_right _ (mem_pinsAt hb e)))).1, fun b hb => ?_, w8⟩
        obtain ⟨o, e, d⟩ := T.obj _ _ st6 b hb
        exact (I8.pin (b, o) (List.mem_append_right _ (List.mem_append_right _ (mem_pinsAt hb e)))).2.1
      refine thn (ht _ _ _ _ _ _ s7 σ7 H7 _ I7 q7) fun c s8 ⟨H8, I8, q8⟩ => ?_
      cases c with
      | false =>
        rw [if_neg Bool.false_ne_true] at q8 ⊢
        obtain ⟨m', hm, w8⟩ := q8
        exact again I8 hm w8
      | true =>
        rw [if_pos rfl] at q8 ⊢
        refine thn (he _ _ _ _ _ _ s8 σ7 H8 _ I8 q8) fun v s9 ⟨y, H9, I9, r9, e9, z9, m', hm, w9⟩ => ?_
        exact thn (mt_append _ s9 σ7 H9 (.ref s2.heap.objs.size) [y] (.ref s2.heap.objs.size) [v] (fun _ H' => H' = upd H9 s2.heap.objs.size (.lst (ys ++ [y]))) I9 rfl (.cons r9 .nil) ⟨_, ys, y, rfl, rfl, e9, z9, rfl⟩)
          fun _ s10 ⟨_, H10, I10, _, e10⟩ => by subst e10; exact again I10 hm w9
  subst hs3
  exact codeAny_compStart_list loop (T.self _ 0 _ _ _ hst₁ loop)
def tComp (wi : TI) (g : TG) (tt : TT) (te : TE) (σ0 : St → St) : TE := fun σ H Q => wi σ H fun J H1 => compW J g tt te (σ0 σ) H1 Q
def tTrue : TT := fun _ H Q => Q true H
variable {pos : Pos} {wi : TI}
theorem pe_compG (hc : X.calm = true) (hi : PI X tg iter wi) (fr : ∀ σ : St, σ.length = X.N.length → Frees X N' scope cl σ (σ0 σ)) (hk : ∀ σ, Keepg g (σ0 σ))
    (hg : ∀ C s3 H3 fp pins, PG (compCx X N' scope cl C s3 H3 fp pins) tg g)
    (ht : ∀ C s3 H3 fp pins (pl : List (Addr × Obj)) (s : Shared) (σ : St) (H : Hp) (Q : Bool → Hp → Prop), Inv (compCx X N' scope cl C s3 H3 fp pins) pl σ H s → tt σ H Q →
      wpAny (model X.prog X.w) X.A (forIn ifs true fun c r => if r = true then do let ok ← isTrue c (compEnvC scope cl C X.env) (eval c (compEnvC scope cl C X.env)); pure (ForInStep.yield ok) else pure (ForInStep.yield r)) (TP (compCx X N' scope cl C s3 H3 fp pins) pl σ Q) (fun _ _ => False) s)
    (he : ∀ C s3 H3 fp pins, PE (compCx X N' scope cl C s3 H3 fp pins) elt te)
    (hclos : closureFor scope X.env = pure cl) (hcell : ∀ y ∈ scope.names, y.2 ≠ .cell) (hkind : scope.kind = .function) (hnames : ∀ y ∈ scope.names, y.2 = .local → scope.names.lookup y.1 = some .local)
    (hs : ∀ x, foldedSetIterable iter X.env x = pure x) : PE X (.ListComp elt [⟨tg, iter, ifs, 0⟩] scope pos) (tComp wi g tt te σ0) := by
  intro pins s σ H Q I h
  rw [eval_ListComp]
  refine wpAny_comprehension_free (use := none) rfl hs hclos hkind hnames (thn (hi pins s σ H _ I h) fun v s1 h1 => thn h1 fun itv s2 h2 => ?_)
  obtain ⟨it, fp, tn, J, H2, e, I2, T, st2, f2, q⟩ := h2
  subst e
  refine comp_block (RR := fun acc C => compPost (model X.prog X.w) X.A X.xe none (EP X pins σ Q) acc C) hc hcell hkind I2 T st2 f2 (fr σ I.len) (hk σ) hg ht he q ?_
  intro D C s' H' m I' hn hC h1 h2 h3 h4 q'
  refine ⟨m, hn, fun h'' hs'' => ⟨.ref D, H', ?_, rfl, q'⟩⟩
  exact I'.turned (t' := s'.toks) (fun b o hb e => hs''.extBut b o hb e) hC h1 (.inr h2) h3 h4
def tSetC (t : TE) (i : Nat) : TS := fun D σ H => t σ H fun x H1 => D.nx (σ.set i (some x)) H1
theorem ps_setCG {i : Nat} {x : Str} {pos' spos : Pos} (hN : X.N.Nodup) (hi' : X.N[i]? = some x) (hx : Loc X.env.scope x) (hf : X.fn x = true ∨ X.env.scope.names.lookup x = some .local)
    (hc : X.calm = true) (hi : PI X tg iter wi) (fr : ∀ σ : St, σ.length = X.N.length → Frees X N' scope cl σ (σ0 σ)) (hk : ∀ σ, Keepg g (σ0 σ))
    (hg : ∀ C s3 H3 fp pins, PG (compCx X N' scope cl C s3 H3 fp pins) tg g)
    (ht : ∀ C s3 H3 fp pins (pl : List (Addr × Obj)) (s : Shared) (σ : St) (H : Hp) (Q : Bool → Hp → Prop), Inv (compCx X N' scope cl C s3 H3 fp pins) pl σ H s → tt σ H Q →
      wpAny (model X.prog X.w) X.A (forIn ifs true fun c r => if r = true then do let ok ← isTrue c (compEnvC scope cl C X.env) (eval c (compEnvC scope cl C X.env)); pure (ForInStep.yield ok) else pure (ForInStep.yield r)) (TP (compCx X N' scope cl C s3 H3 fp pins) pl σ Q) (fun _ _ => False) s)
    (he : ∀ C s3 H3 fp pins, PE (compCx X N' scope cl C s3 H3 fp pins) elt te)
    (hclos : closureFor scope X.env = pure cl) (hcell : ∀ y ∈ scope.names, y.2 ≠ .cell) (hkind : scope.kind = .function) (hnames : ∀ y ∈ scope.names, y.2 = .local → scope.names.lookup y.1 = some .local)
    (hs : ∀ x, foldedSetIterable iter X.env x = pure x) (hsw : swapsWith (.ListComp elt [⟨tg, iter, ifs, 0⟩] scope pos) (some (.Name x pos')) spos.line X.env = pure true) :
    PS X (.Assign [.Name x pos'] (.ListComp elt [⟨tg, iter, ifs, 0⟩] scope pos) spos) (tSetC (tComp wi g tt te σ0) i) := by
  intro pins s σ H D I h
  rw [exec_Assign_Name_used _ _ _ _ hsw]
  refine wpAny_bind (wpAny_standAt (wpAny_bind ?_))
  show wpAny _ X.A (do let _ ← comprehension (.ListComp elt [⟨tg, iter, ifs, 0⟩] scope pos) scope X.env _ (newList []) false (eval iter X.env) (some (assign (.Name x pos') X.env))) _ _ s
  refine wpAny_bind (wpAny_mono (wpAny_comprehension_free (Q := fun _ s' => SP X pins D .next s') (use := some (assign (.Name x pos') X.env)) rfl hs hclos hkind hnames (thn (hi pins s σ H _ I h) fun v s1 h1 => thn h1 fun itv s2 h2 => ?_))
    (fun _ s' hq => wpAny_pure (wpAny_pure hq)) fun _ _ e => e)
  obtain ⟨it, fp, tn, J, H2, e, I2, T, st2, f2, q⟩ := h2
  subst e
  refine comp_block (RR := fun acc C => compPost (model X.prog X.w) X.A X.xe (some (assign (.Name x pos') X.env)) (fun _ s' => SP X pins D .next s') acc C) hc hcell hkind I2 T st2 f2 (fr σ I.len) (hk σ) hg ht he q ?_
  intro Dl C s' H' m I' hn hC h1 h2 h3 h4 q'
  show wpAny _ _ (assign (.Name x pos') X.env (.ref Dl)) _ _ s'
  refine wpAny_assign_Name (store_ok2 (v := .ref Dl) I' hN hi' hx rfl (fun s'' I'' ⟨a, hsb, ha⟩ => ?_) hf)
  have hne : C ≠ a := by
    rcases ha with rfl | ha
    · exact h1
    · exact Ne.symm (h3 x a ha)
  refine ⟨m, hn.sameBut hsb hne, fun h'' hs'' => ⟨_, H', ?_, q'⟩⟩
  exact I''.turned (t' := s''.toks) (fun b o hb e => hs''.extBut b o hb e) hC h1 (.inr h2) h3 h4
end
end L2
namespace L2
open PySem PySem.Spec PyProof.Rows
section
variable {X : Cx} {iter elt c : Expr} {scope : Scope} {y z : Str} {py pos : Pos} {wi : TI} {te : TE} {tt : TT}
theorem tests0 {N' : List Str} {cl : List (Str × Addr)} : ∀ C s3 H3 fp pins (pl : List (Addr × Obj)) (s : Shared) (σ : St) (H : Hp) (Q : Bool → Hp → Prop), Inv (compCx X N' scope cl C s3 H3 fp pins) pl σ H s → tTrue σ H Q →
    wpAny (model X.prog X.w) X.A (forIn ([] : List Expr) true fun c r => if r = true then do let ok ← isTrue c (compEnvC scope cl C X.env) (eval c (compEnvC scope cl C X.env)); pure (ForInStep.yield ok) else pure (ForInStep.yield r)) (TP (compCx X N' scope cl C s3 H3 fp pins) pl σ Q) (fun _ _ => False) s :=
  fun _ _ _ _ _ _ _ _ H _ I h => wpAny_tests_nil ⟨H, I, h⟩
theorem tests1 {N' : List Str} {cl : List (Str × Addr)} (ht : ∀ C s3 H3 fp pins, PT (compCx X N' scope cl C s3 H3 fp pins) c tt) : ∀ C s3 H3 fp pins (pl : List (Addr × Obj)) (s : Shared) (σ : St) (H : Hp) (Q : Bool → Hp → Prop), Inv (compCx X N' scope cl C s3 H3 fp pins) pl σ H s → tt σ H Q →
    wpAny (model X.prog X.w) X.A (forIn [c] true fun c r => if r = true then do let ok ← isTrue c (compEnvC scope cl C X.env) (eval c (compEnvC scope cl C X.env)); pure (ForInStep.yield ok) else pure (ForInStep.yield r)) (TP (compCx X N' scope cl C s3 H3 fp pins) pl σ Q) (fun _ _ => False) s :=
  fun C s3 H3 fp pins pl s σ H Q I h => wpAny_tests_one (ht C s3 H3 fp pins pl s σ H Q I h)
end
end L2
namespace L2
open PySem PySem.Spec PyProof.Rows
section
variable {X : Cx}
theorem Vals.insert {xs : List V} {us : List Value} {y : V} {u : Value} (k : Nat) (h : Vals xs us) (r : RelV y u) : Vals (xs.take k ++ y :: xs.drop k) (us.take k ++ u :: us.drop k) :=
  Vals.append (h.take k) (.cons r (h.drop k))
def rInsert : V → List V → Hp → VK → Prop := fun x vs H Q => ∃ l xs i y, x = .ref l ∧ vs = [.int i, y] ∧ H l = some (.lst xs) ∧ 0 ≤ i ∧ i ≤ xs.length ∧ xs.length < sizeLine ∧ Q .non (upd H l (.lst (xs.take i.toNat ++ y :: xs.drop i.toNat)))
theorem mt_insert : MtM X "list.insert" rInsert := by
  intro pins s σ H x vs v us Q I rx rv h
  obtain ⟨l, xs, i, y, rfl, rfl, hH, h0, h1, hz, q⟩ := h
  cases rx
  obtain ⟨u, w', rfl, ⟨t, rfl⟩, ru⟩ := vals2 rv
  obtain ⟨z, its, n, r, hl, e⟩ := I.lstM hH
  have hn := line63
  refine call_meets F.slot_list_insert ⟨_, e, rfl⟩ F.entry_list_insert (F.args_list_insert_3 _ _ _) (AutoListH.list_insert_list_int_val_1 l its.toArray n i t w' (by rw [fitsIndex_both (by omega) (by omega)]; exact Bool.false_ne_true) (by rw [List.size_toArray]; omega)) ⟨e, ?_⟩
  refine ⟨.non, _, I.lset (its' := its.take i.toNat ++ w' :: its.drop i.toNat) hH e ?_ (Vals.insert _ r ru) ?_, rfl, q⟩
  · have hk : (if i < 0 then (i + ((its.toArray.size : Nat) : Int)).toNat else min i.toNat its.toArray.size) = i.toNat := by
      rw [if_neg (by omega), List.size_toArray]
      omega
    dsimp only
    rw [hk]
    apply Array.ext'
    simp
    exact List.take_of_length_le (by simp)
  · rw [List.length_append, List.length_cons, List.length_take, List.length_drop]
    omega
end
section
variable {prog : Program} {w : World} {A : Around} {R : Result → Shared → Prop} {I : Addr} {fp wr : List Addr} {n : Nat} {P : Nat → Value → Prop} {St : Nat → Heap → Prop} {kw : List (Str × Value)}
end
section
variable {prog : Program} {w : World} {A : Around} {E : Value → Shared → Prop} {s : Shared}
end
section
variable {X : Cx}
end
section
variable {X : Cx}
theorem pe_globI {x : Str} {i : Int} {pos : Pos} (hg : Gl X x) (hm : ∃ t, X.mg x = some (.int i t)) (hd : (x == ("__debug__" : Str)) = false := by decide) : PE X (.Name x pos) (tC (.int i)) := by
  obtain ⟨t, e⟩ := hm
  exact pe_glob hg e ⟨t, rfl⟩ hd
end
theorem bt_len : bootBuiltins "len" = some (.builtin "len") := by decide +kernel
theorem bt_max : bootBuiltins "max" = some (.builtin "max") := by decide +kernel
theorem bt_isinstance : bootBuiltins "isinstance" = some (.builtin "isinstance") := by decide +kernel
theorem bt_sorted : bootBuiltins "sorted" = some (.builtin "sorted") := by decide +kernel
theorem bt_int : bootBuiltins "int" = some (.type "int") := by decide +kernel
theorem bt_bool : bootBuiltins "bool" = some (.type "bool") := by decide +kernel
theorem bt_list : bootBuiltins "list" = some (.type "list") := by decide +kernel
theorem same_new {H : Hp} {a : Addr} {o : HO} (h : H a = none) : Same H (upd H a o) := fun b u e => by
  rw [upd_ne (ne_of_none e h)]
  exact e
theorem Paired.mono {α β : Type} {F G : α → β → Prop} : ∀ {as : List α} {bs : List β}, Paired F as bs → (∀ a b, a ∈ as → F a b → G a b) → Paired G as bs
  | _, _, .nil, _ => .nil
  | _, _, .cons r t, h => .cons (h _ _ List.mem_cons_self r) (Paired.mono t fun a b m => h a b (List.mem_cons_of_mem _ m))
theorem Paired.append {α β : Type} {F : α → β → Prop} : ∀ {as cs : List α} {bs ds : List β}, Paired F as bs → Paired F cs ds → Paired F (as ++ cs) (bs ++ ds)
  | _, _, _, _, .nil, s => s
  | _, _, _, _, .cons r t, s => .cons r (Paired.append t s)
theorem Paired.take {α β : Type} {F : α → β → Prop} : ∀ (n : Nat) {as : List α} {bs : List β}, Paired F as bs → Paired F (as.take n) (bs.take n)
  | 0, _, _, _ => .nil
  | _ + 1, _, _, .nil => .nil
  | n + 1, _, _, .cons r t => .cons r (Paired.take n t)
theorem Paired.drop {α β : Type} {F : α → β → Prop} : ∀ (n : Nat) {as : List α} {bs : List β}, Paired F as bs → Paired F (as.drop n) (bs.drop n)
  | 0, _, _, h => h
  | _ + 1, _, _, .nil => .nil
  | n + 1, _, _, .cons _ t => Paired.drop n t
section
variable {X : Cx} {K : PySem.W.Frag}
theorem sl_listK (h : X.K = K) : SlR X (rSlL K) := by subst h; exact sl_list
theorem call_list_ofK (h : X.K = K) : CallR X (.type "list") (fun xs H Q => ∃ p ys, xs = [.ref p] ∧ (SqL K H p ys ∨ SqT K H p ys) ∧ ∀ l, H l = none → Q (.ref l) (upd H l (.lst ys))) := by subst h; exact call_list_of
theorem call_isiK (h : X.K = K) : CallR X (.builtin "isinstance") (fun xs H Q => ∃ x n t b, xs = [x, .ty n] ∧ TyOf K H x t ∧ PySem.W.kitOne K t (.type n) = some b ∧ Q (.bl b) H) := by subst h; exact call_isi
theorem pt_truthK {a : Expr} {ta : TE} (h : X.K = K) (ha : PE X a ta) (he : ∀ whole, isTrue a X.env whole = (do let v ← whole; standAt a.pos; holding [v] (truthy v))) :
    PT X a (fun σ H Q => ta σ H fun x H' => ∃ k, TruV K x H' k ∧ Q k H') := by subst h; exact pt_truth ha he
end
end L2
namespace L2
open PySem PySem.Spec PyProof.Rows
section
variable {X : Cx}
end
end L2
namespace L2
open PySem PySem.Spec PyProof.Rows
section
variable {prog : Program} {w : World} {A : Around} {E : Value → Shared → Prop}
theorem draw_list {it t : Addr} {items : Array Value} (hne : t ≠ it) : ∀ (n i : Nat) (s : Shared) (Q : List Value → Shared → Prop), s.heap.IsListIter it t i → s.heap.IsList t items → i + n ≤ items.size →
    (∀ h', h'.IsListIter it t (i + n) → Heap.SameBut it s.heap h' → Q ((items.toList.drop i).take n) { s with heap := h' }) → wpAny (model prog w) A (draw (.ref it) n) Q E s
  | 0, i, s, Q, hit, _, _, hQ => by
    show wpAny _ _ (pure []) Q E s
    exact wpAny_pure (by simpa using hQ s.heap hit (Heap.SameBut.refl ..))
  | n + 1, i, s, Q, hit, ht, hle, hQ => by
    have hlt : i < items.size := by omega
    show wpAny _ _ (pyNext (.ref it) >>= _) Q E s
    refine wpAny_bind (wpAny_pyNext_list_item hit ht (x := items[i]) (by simp [hlt]) fun h₁ hit₁ hs₁ => ?_)
    refine wpAny_bind (wpAny_holding (draw_list hne n (i + 1) _ _ hit₁ (ht.extBut hs₁.extBut hne) (by omega) fun h₂ hit₂ hs₂ => wpAny_pure ?_))
    have hd : items.toList.drop i = items[i] :: items.toList.drop (i + 1) := by simp [List.drop_eq_getElem_cons, hlt]
    have := hQ h₂ (by rw [show i + (n + 1) = i + 1 + n by omega]; exact hit₂) (hs₁.trans hs₂)
    rw [hd, List.take_succ_cons] at this
    exact this
theorem unpackItems_list {s : Shared} {t : Addr} {items : Array Value} {Q : List Value → Shared → Prop} (hh : A.handled = none) (ht : s.heap.IsList t items)
    (hQ : ∀ h', Heap.ExtBut s.heap.objs.size s.heap h' → Q items.toList { s with heap := h' }) : wpAny (model prog w) A (unpackItems (.ref t) items.size none) Q E s := by
  have hlt : t ≠ s.heap.objs.size := by obtain ⟨o, ho, _⟩ := ht; exact Nat.ne_of_lt (Heap.lt_size ho)
  unfold unpackItems
  refine wpAny_bind ?_
  · unfold notIterableAtAll
    refine wpAny_bind (wpAny_specialOf ht.typeIs F.slot_list_iter.lookup ?_)
    refine wpAny_pure ?_
    simp only [Bool.false_eq_true, if_false]
    refine wpAny_bind (wpAny_holding (wpAny_pyIter_list ht ?_))
    refine wpAny_bind (wpAny_holding (draw_list hlt items.size 0 _ _ ⟨_, Heap.get?_push_size _ rfl, rfl, rfl⟩ (ht.push _) (by omega) fun h₁ hit₁ hs₁ => ?_))
    have hall : List.take items.size (List.drop 0 items.toList) = items.toList := by
      rw [List.drop_zero]; exact List.take_of_length_le (by simp)
    rw [hall]
    rw [if_neg (by simp)]
    have ht₁ : h₁.IsList t items := (ht.push _).extBut hs₁.extBut hlt
    refine wpAny_bind (wpAny_holding (wpAny_pyNext_list_end hh hit₁ ht₁ (by simp) fun h₂ he₂ => ?_))
    simp only [Option.isSome_none, Bool.false_eq_true, if_false]
    refine wpAny_pure (hQ h₂ fun b o hb e => he₂ b o hb (hs₁.extBut b o hb (Heap.get?_push_of_some _ e)))
theorem assign_Tuple_list {s : Shared} {env : Env} {elts : List Expr} {x1} {pos : Pos} {t : Addr} {items : Array Value} {Q : Unit → Shared → Prop} (hh : A.handled = none) (ht : s.heap.IsList t items)
    (hn : (assignEach elts env).length = items.size) (hstar : (assignEach elts env).findIdx? (·.1) = none)
    (h : ∀ h', Heap.ExtBut s.heap.objs.size s.heap h' → wpAny (model prog w) A (assignInOrder ((assignEach elts env).map (·.2)) items.toList) Q E { s with heap := h' }) :
    wpAny (model prog w) A (assign (.Tuple elts x1 pos) env (.ref t)) Q E s := by
  rw [arm_assign_Tuple]
  refine wpAny_bind (wpAny_standAt ?_)
  unfold unpack
  rw [hn, hstar]
  exact wpAny_bind (wpAny_holding (unpackItems_list hh ht h))
end
section
variable {X : Cx} {pos : Pos}
def gLst (K : PySem.W.Frag) (n : Nat) (t : TGs) : TG := fun v σ H Q => ∃ a xs, v = .ref a ∧ SqL K H a xs ∧ xs.length = n ∧ t xs σ H Q
theorem pg_lst {es : List Expr} {k : Nat} {t : TGs} {n : Nat} (hc : X.calm = true) (h : PGs X es t)
    (hn : (assignEach es X.env).length = n := by rfl) (hst : (assignEach es X.env).findIdx? (·.1) = none := by rfl) : PG X (.Tuple es k pos) (gLst X.K n t) := by
  intro pins s σ H v u Q I r hw
  obtain ⟨a, xs, e1, hq, hl, hw⟩ := hw
  subst e1
  cases r
  obtain ⟨its, rv, ht, hz⟩ := I.list hq
  refine assign_Tuple_list (I.ok.hd hc) ht.isList (by simp [hn, ← hl, rv.length]) hst fun h' hx => ?_
  have I1 : Inv X pins σ H { s with heap := h' } := I.kept (t' := s.toks) fun b o e => hx b o (Nat.ne_of_lt (Heap.lt_size e)) e
  exact h pins _ σ H xs _ Q I1 (by simpa using rv) hw
end
end L2
namespace L2
open PySem PySem.Spec PyProof.Rows
section
variable {κ : Type} [DecidableEq κ]
end
section
variable {P : Program} {w : World} {H : Hp} {h : Heap} {a : Addr}
end
section
variable {X : Cx} {pins : List (Addr × Obj)} {σ : St} {H : Hp} {s : Shared} {a : Addr} {y v : V} {u r : Value} {o : Option V} {A : Around} {E : Value → Shared → Prop}
end
section
variable {X : Cx} {pins : List (Addr × Obj)} {σ : St} {H : Hp} {s : Shared} {a : Addr} {kvs : List (Key × V)} {k : Key} {u : Value} {A : Around} {E : Value → Shared → Prop}
end
section
variable {X : Cx} {o i e value : Expr} {pos pos' tpos : Pos} {td ty tv : TE}
end
section
variable {X : Cx} {pos : Pos}
end
structure M1 (X : Cx) (o : Expr) (m : Str) (apos : Pos) (e : Expr) (cpos : Pos) : Prop where
  base : attributeBase o m X.env (eval o X.env) = eval o X.env
  few : ((backTo cpos (starEach [e] X.env)).all (fun x => !x.1) && (backToKw cpos (keywordEach [] X.env)).all (fun x => x.1.isSome)
    && decide (([e] : List Expr).length + ([] : List Keyword).length + (if ([] : List Keyword).isEmpty then 0 else 1) < 30)) = true
  line : (apos.endLine == cpos.line) = true
  trees : backTo cpos (starEach [e] X.env) = [(false, eval e X.env)]
structure M2 (X : Cx) (o : Expr) (m : Str) (apos : Pos) (e f : Expr) (cpos : Pos) : Prop where
  base : attributeBase o m X.env (eval o X.env) = eval o X.env
  few : ((backTo cpos (starEach [e, f] X.env)).all (fun x => !x.1) && (backToKw cpos (keywordEach [] X.env)).all (fun x => x.1.isSome)
    && decide (([e, f] : List Expr).length + ([] : List Keyword).length + (if ([] : List Keyword).isEmpty then 0 else 1) < 30)) = true
  line : (apos.endLine == cpos.line) = true
  trees : backTo cpos (starEach [e, f] X.env) = [(false, eval e X.env), (false, eval f X.env)]
section
variable {X : Cx} {pins : List (Addr × Obj)} {σ : St} {H : Hp} {s : Shared} {a : Addr} {y d : V} {u r : Value} {o : Option V} {A : Around} {E : Value → Shared → Prop}
end
section
variable {X : Cx} {o e f : Expr} {apos cpos : Pos} {td ty tx : TE}
end
section
variable {X : Cx} {pins : List (Addr × Obj)} {σ : St} {H : Hp} {s : Shared} {a : Addr} {kvs : List (Key × V)} {A : Around} {E : Value → Shared → Prop}
end
section
variable {X : Cx} {pins : List (Addr × Obj)} {σ : St} {H : Hp} {s : Shared} {a : Addr} {y : V} {u : Value} {A : Around} {E : Value → Shared → Prop}
end
end L2
set_option Elab.async false
set_option linter.all false
set_option maxRecDepth 100000
namespace VL
open PySem L2
open Classical
inductive D where
  | non | bl (b : Bool) | int (i : Int) | str (x : Str) | ty (n : String)
  | lst (xs : List D) | tup (xs : List D) | ins (C : Addr) | scr (ns : List Int)
abbrev No : Addr → Prop := fun _ => False
def KL (K : PySem.W.Frag) (a : Addr) (xs : List V) : Prop :=
  ∃ (o : Obj) (its : Array Value) (n : Nat), K.lookup a = some o ∧ o.cls = .type "list" ∧ o.dict = none ∧ o.data = .seq its n ∧ its.size ≤ sizeLine ∧ Vals xs its.toList
mutual
inductive Is (K : PySem.W.Frag) (H : Hp) (Z : Addr → Prop) : V → D → Prop
  | non : Is K H Z .non .non
  | bl (b : Bool) : Is K H Z (.bl b) (.bl b)
  | int (i : Int) : Is K H Z (.int i) (.int i)
  | str (x : Str) : Is K H Z (.str x) (.str x)
  | ty (n : String) : Is K H Z (.ty n) (.ty n)
  | lst {a : Addr} {vs : List V} {ds : List D} (hz : ¬ Z a) (h : Rd H a (.lst vs)) (hl : vs.length ≤ sizeLine) (r : IsL K H Z vs ds) : Is K H Z (.ref a) (.lst ds)
  | tup {a : Addr} {vs : List V} {ds : List D} (hz : ¬ Z a) (h : H a = some (.tup vs)) (hl : vs.length ≤ sizeLine) (r : IsL K H Z vs ds) : Is K H Z (.ref a) (.tup ds)
  | ins {a C dx : Addr} (hz : ¬ Z a) (h : H a = some (.ins C dx [])) : Is K H Z (.ref a) (.ins C)
  | scr {a : Addr} {ns : List Int} (hz : ¬ Z a) (h : Rd H a (.lst (ns.map V.int))) (hl : ns.length ≤ sizeLine) : Is K H Z (.ref a) (.scr ns)
  | scrK {a : Addr} {ns : List Int} (h : KL K a (ns.map V.int)) (hl : ns.length ≤ sizeLine) : Is K H Z (.ref a) (.scr ns)
inductive IsL (K : PySem.W.Frag) (H : Hp) (Z : Addr → Prop) : List V → List D → Prop
  | nil : IsL K H Z [] []
  | cons {v : V} {d : D} {vs : List V} {ds : List D} (h : Is K H Z v d) (r : IsL K H Z vs ds) : IsL K H Z (v :: vs) (d :: ds)
end
def Kp (Z : Addr → Prop) (H : Hp) (Z' : Addr → Prop) (H' : Hp) : Prop := ∀ a o, H a = some o → ¬ Z a → H' a = some o ∧ ¬ Z' a
theorem Kp.refl {Z : Addr → Prop} {H : Hp} : Kp Z H Z H := fun _ _ h z => ⟨h, z⟩
theorem Kp.trans {Z Z1 Z2 : Addr → Prop} {H H1 H2 : Hp} (a : Kp Z H Z1 H1) (b : Kp Z1 H1 Z2 H2) : Kp Z H Z2 H2 := fun c o h z => b c o (a c o h z).1 (a c o h z).2
theorem Kp.same {Z : Addr → Prop} {H H' : Hp} (s : Same H H') : Kp Z H Z H' := fun _ _ h z => ⟨s _ _ h, z⟩
theorem Kp.less {Z Z' : Addr → Prop} {H : Hp} (h : ∀ a, Z' a → Z a) : Kp Z H Z' H := fun a _ e z => ⟨e, fun q => z (h a q)⟩
theorem Rd.kp {Z Z' : Addr → Prop} {H H' : Hp} {a : Addr} {u : HO} (k : Kp Z H Z' H') (hz : ¬ Z a) (h : Rd H a u) : Rd H' a u ∧ ¬ Z' a := by
  rcases h with h | ⟨o, h⟩
  · exact ⟨.inl (k _ _ h hz).1, (k _ _ h hz).2⟩
  · exact ⟨.inr ⟨o, (k _ _ h hz).1⟩, (k _ _ h hz).2⟩
mutual
theorem Is.kp {Z Z' : Addr → Prop} {H H' : Hp} (k : Kp Z H Z' H') : ∀ {v : V} {d : D}, Is K H Z v d → Is K H' Z' v d
  | _, _, .non => .non
  | _, _, .bl b => .bl b
  | _, _, .int b => .int b
  | _, _, .str b => .str b
  | _, _, .ty b => .ty b
  | _, _, .lst hz h hl r => .lst (Rd.kp k hz h).2 (Rd.kp k hz h).1 hl (IsL.kp k r)
  | _, _, .tup hz h hl r => .tup (k _ _ h hz).2 (k _ _ h hz).1 hl (IsL.kp k r)
  | _, _, .ins hz h => .ins (k _ _ h hz).2 (k _ _ h hz).1
  | _, _, .scr hz h hl => .scr (Rd.kp k hz h).2 (Rd.kp k hz h).1 hl
  | _, _, .scrK h hl => .scrK h hl
theorem IsL.kp {Z Z' : Addr → Prop} {H H' : Hp} (k : Kp Z H Z' H') : ∀ {v : List V} {d : List D}, IsL K H Z v d → IsL K H' Z' v d
  | _, _, .nil => .nil
  | _, _, .cons h r => .cons (Is.kp k h) (IsL.kp k r)
end
theorem Is.same {Z : Addr → Prop} {H H' : Hp} {v : V} {d : D} (h : Is K H Z v d) (s : Same H H') : Is K H' Z v d := h.kp (Kp.same s)
theorem IsL.same {Z : Addr → Prop} {H H' : Hp} {v : List V} {d : List D} (h : IsL K H Z v d) (s : Same H H') : IsL K H' Z v d := h.kp (Kp.same s)
theorem Is.all {Z : Addr → Prop} {H : Hp} {v : V} {d : D} (h : Is K H Z v d) : Is K H No v d := h.kp (Kp.less fun _ z => z.elim)
theorem IsL.all {Z : Addr → Prop} {H : Hp} {v : List V} {d : List D} (h : IsL K H Z v d) : IsL K H No v d := h.kp (Kp.less fun _ z => z.elim)
def D.scal : D → Bool
  | .lst _ => false
  | .tup _ => false
  | .ins _ => false
  | .scr _ => false
  | _ => true
theorem Is.scal {Z Z' : Addr → Prop} {H H' : Hp} {v : V} {d : D} (h : Is K H Z v d) (e : d.scal = true) : Is K H' Z' v d := by
  cases h with
  | non => exact .non
  | bl b => exact .bl b
  | int b => exact .int b
  | str b => exact .str b
  | ty b => exact .ty b
  | lst _ _ _ _ => cases e
  | tup _ _ _ _ => cases e
  | ins _ _ => cases e
  | scr _ _ _ => cases e
  | scrK _ _ => cases e
section
variable {H : Hp} {Z : Addr → Prop}
theorem IsL.paired : ∀ {vs : List V} {ds : List D}, IsL K H Z vs ds → Paired (Is K H Z) vs ds
  | _, _, .nil => .nil
  | _, _, .cons h r => .cons h (IsL.paired r)
theorem IsL.of : ∀ {vs : List V} {ds : List D}, Paired (Is K H Z) vs ds → IsL K H Z vs ds
  | _, _, .nil => .nil
  | _, _, .cons h r => .cons h (IsL.of r)
theorem IsL.length {vs : List V} {ds : List D} (h : IsL K H Z vs ds) : vs.length = ds.length := Paired.length h.paired
theorem IsL.get : ∀ {vs : List V} {ds : List D} {i : Nat} {d : D}, IsL K H Z vs ds → ds[i]? = some d → ∃ v, vs[i]? = some v ∧ Is K H Z v d
  | _, _, 0, _, .cons h _, e => by cases e; exact ⟨_, rfl, h⟩
  | _, _, i + 1, _, .cons _ r, e => by
    obtain ⟨v, e1, h1⟩ := IsL.get (i := i) r (by simpa using e)
    exact ⟨v, by simpa using e1, h1⟩
theorem IsL.append {vs us : List V} {ds es : List D} (a : IsL K H Z vs ds) (b : IsL K H Z us es) : IsL K H Z (vs ++ us) (ds ++ es) := .of (Paired.append a.paired b.paired)
theorem IsL.take (n : Nat) {vs : List V} {ds : List D} (a : IsL K H Z vs ds) : IsL K H Z (vs.take n) (ds.take n) := .of (Paired.take n a.paired)
theorem IsL.drop (n : Nat) {vs : List V} {ds : List D} (a : IsL K H Z vs ds) : IsL K H Z (vs.drop n) (ds.drop n) := .of (Paired.drop n a.paired)
theorem IsL.set {v : V} {d : D} (q : Is K H Z v d) : ∀ {vs : List V} {ds : List D} (n : Nat), IsL K H Z vs ds → IsL K H Z (vs.set n v) (ds.set n d)
  | _, _, _, .nil => .nil
  | _, _, 0, .cons _ r => .cons q r
  | _, _, n + 1, .cons h r => .cons h (IsL.set q n r)
theorem IsL.one {v : V} {d : D} (q : Is K H Z v d) : IsL K H Z [v] [d] := .cons q .nil
theorem IsL.ints : ∀ {vs : List V} {ns : List Int}, IsL K H Z vs (ns.map D.int) → vs = ns.map V.int
  | _, [], .nil => rfl
  | _, n :: ns, .cons (.int _) r => by rw [IsL.ints (ns := ns) r]; rfl
theorem IsL.ofInts : ∀ (ns : List Int), IsL K H Z (ns.map V.int) (ns.map D.int)
  | [] => .nil
  | n :: ns => .cons (.int n) (IsL.ofInts ns)
end
inductive Sl where
  | un | pu (d : D) | bo (d : D) | ol (ds : List D) | om (rows : List (List D))
abbrev Rho := List Sl
abbrev Own := Nat → List Addr
def tot (Z : Addr → Prop) (os : Own) : Addr → Prop := fun a => Z a ∨ ∃ i, a ∈ os i
def SlOk (K : PySem.W.Frag) (B H : Hp) (T : Addr → Prop) (o : List Addr) : Sl → Option V → Prop
  | .un, _ => o = []
  | .pu d, v => o = [] ∧ ∃ u, v = some u ∧ Is K H T u d
  | .bo d, v => o = [] ∧ ∃ u, v = some u ∧ Is K B No u d
  | .ol ds, v => ∃ a vs, o = [a] ∧ v = some (.ref a) ∧ H a = some (.lst vs) ∧ vs.length ≤ sizeLine ∧ IsL K H T vs ds
  | .om rows, v => ∃ a ps, o = a :: ps ∧ v = some (.ref a) ∧ H a = some (.lst (ps.map V.ref)) ∧ ps.length ≤ sizeLine ∧ Paired (fun p ds => ∃ vs, H p = some (.lst vs) ∧ vs.length ≤ sizeLine ∧ IsL K H T vs ds) ps rows
class Tabs where
  ts : List (Addr × Str)
def TabIn [Tabs] (H : Hp) : Prop := ∀ p ∈ Tabs.ts, ∃ t, H p.1 = some (.tbl #[.str p.2 t])
theorem TabIn.same [Tabs] {H H' : Hp} (h : TabIn H) (s : Same H H') : TabIn H' := fun p hp => let ⟨t, e⟩ := h p hp; ⟨t, s _ _ e⟩
def ZT [Tabs] (Z : Addr → Prop) (H : Hp) : Prop := (∀ a, Z a → ∃ o, H a = some o) ∧ TabIn H
structure Fr [Tabs] (K : PySem.W.Frag) (B : Hp) (Z : Addr → Prop) (os : Own) (ρ : Rho) (σ : St) (H : Hp) : Prop where
  keep : Same B H
  zin : ∀ a, Z a → ∃ o, H a = some o
  len : σ.length = ρ.length
  nd : ∀ i, (os i).Nodup
  dj : ∀ i j a, a ∈ os i → a ∈ os j → i = j
  new : ∀ i a, a ∈ os i → B a = none ∧ ¬ Z a
  sl : ∀ i, SlOk K B H (tot Z os) (os i) (ρ.getD i .un) ((σ[i]?).join)
  tab : TabIn B
variable [Tabs]
theorem Fr.tabH {B H : Hp} {Z : Addr → Prop} {os : Own} {ρ : Rho} {σ : St} (f : Fr K B Z os ρ σ H) : TabIn H := f.tab.same f.keep
theorem Paired.any {α β : Type} {F : α → β → Prop} : ∀ {as : List α} {bs : List β} {a : α}, Paired F as bs → a ∈ as → ∃ b, F a b
  | _, _, _, .cons r t, h => by
    rcases List.mem_cons.mp h with rfl | h
    · exact ⟨_, r⟩
    · exact Paired.any t h
theorem SlOk.dom {B H : Hp} {T : Addr → Prop} {o : List Addr} {s : Sl} {v : Option V} (h : SlOk K B H T o s v) {a : Addr} (ha : a ∈ o) : ∃ xs, H a = some (.lst xs) := by
  cases s with
  | un => cases h; cases ha
  | pu d => obtain ⟨rfl, _⟩ := h; cases ha
  | bo d => obtain ⟨rfl, _⟩ := h; cases ha
  | ol ds =>
    obtain ⟨b, vs, rfl, _, e, _⟩ := h
    cases List.mem_singleton.mp ha
    exact ⟨_, e⟩
  | om rows =>
    obtain ⟨b, ps, rfl, _, e, _, r⟩ := h
    rcases List.mem_cons.mp ha with rfl | ha
    · exact ⟨_, e⟩
    · obtain ⟨_, vs, q, _⟩ := Paired.any r ha
      exact ⟨_, q⟩
theorem SlOk.kp {B B' H H' : Hp} {T T' : Addr → Prop} {o : List Addr} {s : Sl} {v : Option V} (h : SlOk K B H T o s v) (k : Kp T H T' H') (hb : Same B B') (ho : ∀ a ∈ o, ∀ u, H a = some u → H' a = some u) : SlOk K B' H' T' o s v := by
  cases s with
  | un => exact h
  | pu d => obtain ⟨e, u, e2, i⟩ := h; exact ⟨e, u, e2, i.kp k⟩
  | bo d => obtain ⟨e, u, e2, i⟩ := h; exact ⟨e, u, e2, i.same hb⟩
  | ol ds => obtain ⟨a, vs, rfl, e2, e3, hl, i⟩ := h; exact ⟨a, vs, rfl, e2, ho _ (List.mem_singleton.mpr rfl) _ e3, hl, i.kp k⟩
  | om rows =>
    obtain ⟨a, ps, rfl, e2, e3, hl, i⟩ := h
    exact ⟨a, ps, rfl, e2, ho _ List.mem_cons_self _ e3, hl, Paired.mono i fun p ds hp ⟨vs, q, hv, j⟩ => ⟨vs, ho _ (List.mem_cons_of_mem _ hp) _ q, hv, j.kp k⟩⟩
section
variable {B H H' : Hp} {Z : Addr → Prop} {os : Own} {ρ : Rho} {σ : St}
theorem Fr.grow (f : Fr K B Z os ρ σ H) (s : Same H H') : Fr K B Z os ρ σ H' where
  keep := f.keep.trans s
  zin := fun a z => let ⟨o, e⟩ := f.zin a z; ⟨o, s _ _ e⟩
  len := f.len
  nd := f.nd
  dj := f.dj
  new := f.new
  sl := fun i => (f.sl i).kp (Kp.same s) (Same.refl _) fun a _ u e => s _ _ e
  tab := f.tab
theorem Fr.out (f : Fr K B Z os ρ σ H) {p : Addr} (hp : H p = none) : ¬ tot Z os p := by
  rintro (z | ⟨i, z⟩)
  · obtain ⟨o, e⟩ := f.zin p z
    rw [hp] at e; cases e
  · obtain ⟨xs, e⟩ := (f.sl i).dom z
    rw [hp] at e; cases e
def putO (os : Own) (i : Nat) (o : List Addr) : Own := fun j => if j = i then o else os j
theorem putO_same {os : Own} {i : Nat} {o : List Addr} : putO os i o i = o := if_pos rfl
theorem putO_ne {os : Own} {i j : Nat} {o : List Addr} (h : j ≠ i) : putO os i o j = os j := if_neg h
theorem getD_set_same {α : Type} {l : List α} {i : Nat} {x d : α} (h : i < l.length) : (l.set i x).getD i d = x := by
  rw [List.getD_eq_getElem?_getD, List.getElem?_set_self h]; rfl
theorem getD_set_ne {α : Type} {l : List α} {i j : Nat} {x d : α} (h : j ≠ i) : (l.set i x).getD j d = l.getD j d := by
  rw [List.getD_eq_getElem?_getD, List.getElem?_set_ne (Ne.symm h), ← List.getD_eq_getElem?_getD]
theorem Fr.step (f : Fr K B Z os ρ σ H) {i : Nat} (hi : i < ρ.length) {o : List Addr} {s : Sl} {v : Option V}
    (hk : ∀ a u, H a = some u → a ∉ os i → H' a = some u) (hs : ∀ a, a ∈ os i → ∃ u, H' a = some u) (hn : o.Nodup) (ho : ∀ a ∈ o, a ∈ os i ∨ H a = none) (ok : SlOk K B H' (tot Z (putO os i o)) o s v) :
    Fr K B Z (putO os i o) (ρ.set i s) (σ.set i v) H' ∧ Kp (tot Z os) H (tot Z (putO os i o)) H' := by
  have no : ∀ a u, H a = some u → a ∉ os i → a ∉ o := fun a u e n q => by
    rcases ho a q with z | z
    · exact n z
    · rw [z] at e; cases e
  have kp : Kp (tot Z os) H (tot Z (putO os i o)) H' := fun a u e t => by
    have ni : a ∉ os i := fun q => t (.inr ⟨i, q⟩)
    refine ⟨hk a u e ni, ?_⟩
    rintro (z | ⟨j, z⟩)
    · exact t (.inl z)
    · by_cases hj : j = i
      · subst hj; rw [putO_same] at z; exact no a u e ni z
      · rw [putO_ne hj] at z; exact t (.inr ⟨j, z⟩)
  refine ⟨⟨fun a u e => hk a u (f.keep a u e) fun q => ?_, fun a z => ?_, ?_, fun j => ?_, fun j k a h1 h2 => ?_, fun j a h => ?_, fun j => ?_, f.tab⟩, kp⟩
  · have := (f.new i a q).1; rw [e] at this; cases this
  · obtain ⟨u, e⟩ := f.zin a z
    exact ⟨u, hk a u e fun q => (f.new i a q).2 z⟩
  · rw [List.length_set, List.length_set]; exact f.len
  · by_cases hj : j = i
    · subst hj; rw [putO_same]; exact hn
    · rw [putO_ne hj]; exact f.nd j
  · have dom : ∀ k, a ∈ os k → ∃ u, H a = some u := fun k z => let ⟨xs, e⟩ := (f.sl k).dom z; ⟨_, e⟩
    by_cases hj : j = i
    · by_cases hk' : k = i
      · rw [hj, hk']
      · subst hj
        rw [putO_same] at h1; rw [putO_ne hk'] at h2
        rcases ho a h1 with z | z
        · exact f.dj _ _ a z h2
        · obtain ⟨u, e⟩ := dom k h2; rw [z] at e; cases e
    · by_cases hk' : k = i
      · subst hk'
        rw [putO_ne hj] at h1; rw [putO_same] at h2
        rcases ho a h2 with z | z
        · exact f.dj _ _ a h1 z
        · obtain ⟨u, e⟩ := dom j h1; rw [z] at e; cases e
      · rw [putO_ne hj] at h1; rw [putO_ne hk'] at h2
        exact f.dj _ _ a h1 h2
  · by_cases hj : j = i
    · subst hj
      rw [putO_same] at h
      rcases ho a h with z | z
      · exact f.new _ a z
      · exact ⟨Same.free f.keep z, fun q => f.out z (.inl q)⟩
    · rw [putO_ne hj] at h; exact f.new j a h
  · by_cases hj : j = i
    · subst hj
      have hσ : j < σ.length := by rw [f.len]; exact hi
      rw [putO_same, getD_set_same hi, List.getElem?_set_self hσ]
      exact ok
    · rw [putO_ne hj, getD_set_ne hj, List.getElem?_set_ne (Ne.symm hj)]
      exact (f.sl j).kp kp (Same.refl _) fun a ha u e => hk a u e fun q => hj (f.dj _ _ a ha q)
theorem Fr.put (f : Fr K B Z os ρ σ H) {i : Nat} (hi : i < ρ.length) {v : V} {d : D} (h : Is K H (tot Z os) v d) :
    Fr K B Z (putO os i []) (ρ.set i (.pu d)) (σ.set i (some v)) H ∧ Kp (tot Z os) H (tot Z (putO os i [])) H := by
  refine f.step hi (fun a u e _ => e) (fun a ha => let ⟨xs, e⟩ := (f.sl i).dom ha; ⟨_, e⟩) List.nodup_nil (fun a h => by cases h) ⟨rfl, v, rfl, h.kp (Kp.less ?_)⟩
  rintro a (z | ⟨j, z⟩)
  · exact .inl z
  · by_cases hj : j = i
    · subst hj; rw [putO_same] at z; cases z
    · rw [putO_ne hj] at z; exact .inr ⟨j, z⟩
end
end VL
set_option Elab.async false
set_option linter.all false
set_option maxRecDepth 100000
namespace VL
open PySem L2
open Classical
noncomputable section
abbrev DE := Rho → Option D
section
variable [Tabs] {K : PySem.W.Frag}
def SemB (K : PySem.W.Frag) (t : TE) (e : DE) : Prop := ∀ {B : Hp} {Z : Addr → Prop} {os : Own} {ρ : Rho} {σ : L2.St} {H : Hp} {Q : VK} {d : D}, Fr K B Z os ρ σ H → e ρ = some d → (∀ v H', Same H H' → Is K H' No v d → Q v H') → t σ H Q
def SemI (K : PySem.W.Frag) (t : TE) (e : DE) : Prop := ∀ {B : Hp} {Z : Addr → Prop} {os : Own} {ρ : Rho} {σ : L2.St} {H : Hp} {Q : VK} {d : D}, Fr K B Z os ρ σ H → e ρ = some d → (∀ v H', Same H H' → Is K H' (tot Z os) v d → Q v H') → t σ H Q
def SemF (K : PySem.W.Frag) (t : TE) (e : Rho → Option (List D)) : Prop := ∀ {B : Hp} {Z : Addr → Prop} {os : Own} {ρ : Rho} {σ : L2.St} {H : Hp} {Q : VK} {ds : List D}, Fr K B Z os ρ σ H → e ρ = some ds →
  (∀ p vs H', Same H H' → H p = none → H' p = some (.lst vs) → vs.length ≤ sizeLine → IsL K H' (fun a => a = p ∨ tot Z os a) vs ds → Q (.ref p) H') → t σ H Q
def SemT (K : PySem.W.Frag) (t : TT) (e : Rho → Option Bool) : Prop := ∀ {B : Hp} {Z : Addr → Prop} {os : Own} {ρ : Rho} {σ : L2.St} {H : Hp} {Q : Bool → Hp → Prop} {b : Bool}, Fr K B Z os ρ σ H → e ρ = some b → (∀ H', Same H H' → Q b H') → t σ H Q
inductive Args (K : PySem.W.Frag) (H : Hp) (T : Addr → Prop) : List Bool → List V → List D → Prop
  | nil : Args K H T [] [] []
  | own {ms : List Bool} {v : V} {d : D} {vs : List V} {ds : List D} : Is K H T v d → Args K H T ms vs ds → Args K H T (true :: ms) (v :: vs) (d :: ds)
  | any {ms : List Bool} {v : V} {d : D} {vs : List V} {ds : List D} : Is K H No v d → Args K H T ms vs ds → Args K H T (false :: ms) (v :: vs) (d :: ds)
def SemA (K : PySem.W.Frag) (ms : List Bool) (t : TA) (e : Rho → Option (List D)) : Prop := ∀ {B : Hp} {Z : Addr → Prop} {os : Own} {ρ : Rho} {σ : L2.St} {H : Hp} {Q : List V → Hp → Prop} {ds : List D}, Fr K B Z os ρ σ H → e ρ = some ds → (∀ vs H', Same H H' → Args K H' (tot Z os) ms vs ds → Q vs H') → t σ H Q
theorem Args.len {H : Hp} {T : Addr → Prop} {ms : List Bool} {vs : List V} {ds : List D} (a : Args K H T ms vs ds) : vs.length = ms.length ∧ ds.length = ms.length := by
  induction a with
  | nil => exact ⟨rfl, rfl⟩
  | own h _ ih => simp [ih.1, ih.2]
  | any h _ ih => simp [ih.1, ih.2]
theorem Args.lown {H : Hp} {T : Addr → Prop} : ∀ {n : Nat} {vs : List V} {ds : List D}, Args K H T (List.replicate n true) vs ds → IsL K H T vs ds
  | 0, _, _, .nil => .nil
  | _ + 1, _, _, .own h r => .cons h r.lown
theorem SemI.b {t : TE} {e : DE} (h : SemI K t e) : SemB K t e := fun f q k => h f q fun v H' s i => k v H' s i.all
theorem SemF.i {t : TE} {e : Rho → Option (List D)} (h : SemF K t e) : SemI K t (fun ρ => (e ρ).map D.lst) := fun {B Z os ρ σ H Q d} f q k => by
  dsimp only at q
  cases q1 : e ρ with
  | none => rw [q1] at q; cases q
  | some ds =>
    rw [q1] at q
    cases q
    refine h f q1 fun p vs H' s hp hp' hl i => k _ _ s (.lst (f.out hp) (.inl hp') hl (i.kp (Kp.less fun a z => .inr z)))
def lof : D → Option (List D)
  | .lst ds => some ds
  | .scr ns => some (ns.map D.int)
  | _ => none
theorem Is.seq {H : Hp} {Z : Addr → Prop} {v : V} {d : D} {ds : List D} (h : Is K H Z v d) (e : lof d = some ds) : ∃ p vs, v = .ref p ∧ vs.length ≤ sizeLine ∧ vs.length = ds.length ∧ ∀ H' Z', Kp Z H Z' H' → SqL K H' p vs ∧ IsL K H' Z' vs ds := by
  cases h with
  | lst hz h hl r => cases e; exact ⟨_, _, rfl, hl, r.length, fun H' Z' k => ⟨.inl (Rd.kp k hz h).1, r.kp k⟩⟩
  | scr hz h hl => cases e; exact ⟨_, _, rfl, by rw [List.length_map]; exact hl, by simp, fun H' Z' k => ⟨.inl (Rd.kp k hz h).1, .ofInts _⟩⟩
  | scrK h hl => cases e; exact ⟨_, _, rfl, by rw [List.length_map]; exact hl, by simp, fun H' Z' k => ⟨.inr h, .ofInts _⟩⟩
  | _ => cases e
def gScal (e : DE) : DE := fun ρ => match e ρ with
  | some d => if d.scal = true then some d else none
  | none => none
theorem SemB.i {t : TE} {e : DE} (h : SemB K t e) : SemI K t (gScal e) := fun {B Z os ρ σ H Q d} f q k => by
  unfold gScal at q
  cases q1 : e ρ with
  | none => rw [q1] at q; cases q
  | some d' =>
    rw [q1] at q
    have q' : (if d'.scal = true then some d' else none) = some d := q
    by_cases c : d'.scal = true
    · rw [if_pos c] at q'
      cases q'
      exact h f q1 fun v H' s i => k v H' s (i.scal c)
    · rw [if_neg c] at q'; cases q'
def dVar (i : Nat) : DE := fun ρ => match ρ.getD i .un with
  | .pu d => some d
  | .bo d => some d
  | .ol ds => some (.lst ds)
  | .om rows => some (.lst (rows.map D.lst))
  | .un => none
def dVarI (i : Nat) : DE := fun ρ => match ρ.getD i .un with
  | .pu d => some d
  | _ => none
omit [Tabs] in
theorem join_some {α : Type} {o : Option (Option α)} {u : α} (h : o.join = some u) : o = some (some u) := by
  cases o with
  | none => cases h
  | some x => rw [show x = some u from h]
theorem rows_is {H : Hp} {T : Addr → Prop} : ∀ {ps : List Addr} {rows : List (List D)}, Paired (fun p ds => ∃ vs, H p = some (.lst vs) ∧ vs.length ≤ sizeLine ∧ IsL K H T vs ds) ps rows → IsL K H No (ps.map V.ref) (rows.map D.lst)
  | _, _, .nil => .nil
  | _, _, .cons ⟨vs, e, hl, i⟩ r => .cons (.lst (fun z => z) (.inl e) hl i.all) (rows_is r)
theorem sb_var (i : Nat) : SemB K (tVar i) (dVar i) := fun {B Z os ρ σ H Q d} f q k => by
  have s := f.sl i
  unfold dVar at q
  cases e : ρ.getD i .un with
  | un => rw [e] at q; cases q
  | pu d' =>
    rw [e] at q s
    cases q
    obtain ⟨_, u, hu, i⟩ := s
    exact ⟨u, join_some hu, k u H (Same.refl _) i.all⟩
  | bo d' =>
    rw [e] at q s
    cases q
    obtain ⟨_, u, hu, i⟩ := s
    exact ⟨u, join_some hu, k u H (Same.refl _) (i.same f.keep)⟩
  | ol ds =>
    rw [e] at q s
    cases q
    obtain ⟨a, vs, _, hu, hH, hl, i⟩ := s
    exact ⟨_, join_some hu, k _ H (Same.refl _) (.lst (fun z => z) (.inl hH) hl i.all)⟩
  | om rows =>
    rw [e] at q s
    cases q
    obtain ⟨a, ps, _, hu, hH, hl, i⟩ := s
    exact ⟨_, join_some hu, k _ H (Same.refl _) (.lst (fun z => z) (.inl hH) (by rw [List.length_map]; exact hl) (rows_is i))⟩
theorem si_var (i : Nat) : SemI K (tVar i) (dVarI i) := fun {B Z os ρ σ H Q d} f q k => by
  have s := f.sl i
  unfold dVarI at q
  cases e : ρ.getD i .un with
  | pu d' =>
    rw [e] at q s
    cases q
    obtain ⟨_, u, hu, i⟩ := s
    exact ⟨u, join_some hu, k u H (Same.refl _) i⟩
  | _ => rw [e] at q; cases q
def dC (d : D) : DE := fun _ => some d
theorem si_int {i : Int} : SemI K (tC (.int i)) (dC (.int i)) := fun f q k => by cases q; exact k _ _ (Same.refl _) (.int i)
theorem si_bl {i : Bool} : SemI K (tC (.bl i)) (dC (.bl i)) := fun f q k => by cases q; exact k _ _ (Same.refl _) (.bl i)
def dII (f : Int → Int → Option D) (a b : DE) : DE := fun ρ => match a ρ with
  | some (.int i) => (match b ρ with
    | some (.int j) => f i j
    | _ => none)
  | _ => none
theorem dII_some {f : Int → Int → Option D} {a b : DE} {ρ : Rho} {d : D} (h : dII f a b ρ = some d) : ∃ i j, a ρ = some (.int i) ∧ b ρ = some (.int j) ∧ f i j = some d := by
  unfold dII at h
  split at h
  · rename_i i e1
    split at h
    · rename_i j e2
      exact ⟨i, j, e1, e2, h⟩
    · cases h
  · cases h
theorem Is.isInt {H : Hp} {Z : Addr → Prop} {v : V} {i : Int} (h : Is K H Z v (.int i)) : v = .int i := by cases h; rfl
theorem Is.isBl {H : Hp} {Z : Addr → Prop} {v : V} {i : Bool} (h : Is K H Z v (.bl i)) : v = .bl i := by cases h; rfl
variable {ta tb tc : TE} {a b c : DE}
theorem si_op0 {g : Int → Int → V} (gd : Int → Int → D) (hg : ∀ i j H Z, Is K H Z (g i j) (gd i j)) (ha : SemB K ta a) (hb : SemB K tb b) : SemI K (tOp (rI0 g) ta tb) (dII (fun i j => some (gd i j)) a b) := fun {B Z os ρ σ H Q d} f q k => by
  obtain ⟨i, j, e1, e2, e3⟩ := dII_some q
  cases e3
  refine ha f e1 fun v H1 s1 i1 => hb (f.grow s1) e2 fun u H2 s2 i2 => ?_
  exact ⟨i, j, i1.isInt, i2.isInt, k _ _ (s1.trans s2) (hg i j _ _)⟩
def gC (C : Int → Int → Prop) (g : Int → Int → D) : Int → Int → Option D := fun i j => if C i j then some (g i j) else none
theorem gC_pos {C : Int → Int → Prop} {g : Int → Int → D} {i j : Int} (h : C i j) : gC C g i j = some (g i j) := if_pos h
theorem si_opC {C : Int → Int → Prop} {g : Int → Int → V} (gd : Int → Int → D) (hg : ∀ i j H Z, Is K H Z (g i j) (gd i j)) (ha : SemB K ta a) (hb : SemB K tb b) : SemI K (tOp (rI C g) ta tb) (dII (gC C gd) a b) := fun {B Z os ρ σ H Q d} f q k => by
  obtain ⟨i, j, e1, e2, e3⟩ := dII_some q
  unfold gC at e3
  by_cases c : C i j
  · rw [if_pos c] at e3
    cases e3
    refine ha f e1 fun v H1 s1 i1 => hb (f.grow s1) e2 fun u H2 s2 i2 => ?_
    exact ⟨i, j, i1.isInt, i2.isInt, c, k _ _ (s1.trans s2) (hg i j _ _)⟩
  · rw [if_neg c] at e3; cases e3
def dAdd : DE → DE → DE := dII fun i j => some (.int (i + j))
def dSub : DE → DE → DE := dII fun i j => some (.int (i - j))
def dMul : DE → DE → DE := dII (gC IntMulOk fun i j => .int (i * j))
def dMod : DE → DE → DE := dII (gC (fun _ j => 0 < j) fun i j => .int (i % j))
def dPow : DE → DE → DE := dII (gC CPow fun i j => .int (i ^ j.toNat))
def dLt : DE → DE → DE := dII fun i j => some (.bl (decide (i < j)))
theorem si_add (ha : SemB K ta a) (hb : SemB K tb b) : SemI K (tOp (rI0 fun i j => .int (i + j)) ta tb) (dAdd a b) := si_op0 (fun i j => .int (i + j)) (fun _ _ _ _ => .int _) ha hb
theorem si_sub (ha : SemB K ta a) (hb : SemB K tb b) : SemI K (tOp (rI0 fun i j => .int (i - j)) ta tb) (dSub a b) := si_op0 (fun i j => .int (i - j)) (fun _ _ _ _ => .int _) ha hb
theorem si_mul (ha : SemB K ta a) (hb : SemB K tb b) : SemI K (tOp (rI IntMulOk fun i j => .int (i * j)) ta tb) (dMul a b) := si_opC (fun i j => .int (i * j)) (fun _ _ _ _ => .int _) ha hb
theorem si_mod (ha : SemB K ta a) (hb : SemB K tb b) : SemI K (tOp (rI (fun _ j => 0 < j) fun i j => .int (i % j)) ta tb) (dMod a b) := si_opC (fun i j => .int (i % j)) (fun _ _ _ _ => .int _) ha hb
theorem si_pow (ha : SemB K ta a) (hb : SemB K tb b) : SemI K (tOp (rI CPow fun i j => .int (i ^ j.toNat)) ta tb) (dPow a b) := si_opC (fun i j => .int (i ^ j.toNat)) (fun _ _ _ _ => .int _) ha hb
theorem si_lt (ha : SemB K ta a) (hb : SemB K tb b) : SemI K (tOp (rI0 fun i j => .bl (decide (i < j))) ta tb) (dLt a b) := si_op0 (fun i j => .bl (decide (i < j))) (fun _ _ _ _ => .bl _) ha hb
def dNeg (a : DE) : DE := fun ρ => match a ρ with
  | some (.int i) => some (.int (-i))
  | _ => none
theorem si_neg (ha : SemB K ta a) : SemI K (tUn (rU fun i => .int (-i)) ta) (dNeg a) := fun {B Z os ρ σ H Q d} f q k => by
  unfold dNeg at q
  split at q
  · rename_i i e1
    cases q
    exact ha f e1 fun v H1 s1 i1 => ⟨i, i1.isInt, k _ _ s1 (.int _)⟩
  · cases q
def dT (a : DE) : Rho → Option Bool := fun ρ => match a ρ with
  | some (.bl b) => some b
  | _ => none
theorem st_test (ha : SemB K ta a) : SemT K (tTest ta) (dT a) := fun {B Z os ρ σ H Q d} f q k => by
  unfold dT at q
  split at q
  · rename_i b e
    cases q
    exact ha f e fun v H1 s1 i1 => ⟨_, i1.isBl, k _ s1⟩
  · cases q
def truD : D → Option Bool
  | .non => some false
  | .bl b => some b
  | .int i => some (i != 0)
  | .str y => if y.length ≤ sizeLine then some ((y.length : Int) != 0) else none
  | .lst ds => some (!ds.isEmpty)
  | .tup ds => some (!ds.isEmpty)
  | .scr ns => some (!ns.isEmpty)
  | _ => none
theorem isEmpty_is {H : Hp} {Z : Addr → Prop} {vs : List V} {ds : List D} (h : IsL K H Z vs ds) : vs.isEmpty = ds.isEmpty := by cases h <;> rfl
theorem tru_is {H : Hp} {Z : Addr → Prop} {v : V} {d : D} {b : Bool} (h : Is K H Z v d) (e : truD d = some b) : TruV K v H b := by
  cases h with
  | non => cases e; rfl
  | bl b => cases e; rfl
  | int i => cases e; rfl
  | str x =>
    have e : (if x.length ≤ sizeLine then some ((x.length : Int) != 0) else none) = some b := e
    by_cases c : x.length ≤ sizeLine
    · rw [if_pos c] at e; cases e; exact ⟨c, rfl⟩
    · rw [if_neg c] at e; cases e
  | ty n => cases e
  | lst hz h hl r => cases e; exact .inl ⟨_, .inl h, by rw [isEmpty_is r]⟩
  | tup hz h hl r => cases e; exact .inr (.inl ⟨_, .inl (.inl h), by rw [isEmpty_is r]⟩)
  | ins _ _ => cases e
  | scr hz h hl => cases e; exact .inl ⟨_, .inl h, by cases ‹List Int› <;> rfl⟩
  | scrK h hl => cases e; exact .inl ⟨_, .inr h, by cases ‹List Int› <;> rfl⟩
def dTru (a : DE) : Rho → Option Bool := fun ρ => match a ρ with
  | some d => truD d
  | none => none
theorem st_tru (ha : SemB K ta a) : SemT K (fun σ H Q => ta σ H fun x H' => ∃ k, TruV K x H' k ∧ Q k H') (dTru a) := fun {B Z os ρ σ H Q b} f q k => by
  unfold dTru at q
  split at q
  · rename_i d e
    exact ha f e fun v H1 s1 i1 => ⟨b, tru_is i1 q, k _ s1⟩
  · cases q
variable {tA tB' : TT} {x y : Rho → Option Bool}
def dAnd (x y : Rho → Option Bool) : Rho → Option Bool := fun ρ => match x ρ with
  | some true => y ρ
  | some false => some false
  | none => none
def dOr (x y : Rho → Option Bool) : Rho → Option Bool := fun ρ => match x ρ with
  | some true => some true
  | some false => y ρ
  | none => none
def dNot (x : Rho → Option Bool) : Rho → Option Bool := fun ρ => match x ρ with
  | some b => some (!b)
  | none => none
theorem st_and (ha : SemT K tA x) (hb : SemT K tB' y) : SemT K (tAnd tA tB') (dAnd x y) := fun {B Z os ρ σ H Q b} f q k => by
  unfold dAnd at q
  split at q
  · rename_i e
    exact ha f e fun H1 s1 => iteT (hb (f.grow s1) q fun H2 s2 => k _ (s1.trans s2))
  · rename_i e
    cases q
    exact ha f e fun H1 s1 => iteF (k _ s1)
  · cases q
theorem st_or (ha : SemT K tA x) (hb : SemT K tB' y) : SemT K (tOr tA tB') (dOr x y) := fun {B Z os ρ σ H Q b} f q k => by
  unfold dOr at q
  split at q
  · rename_i e
    cases q
    exact ha f e fun H1 s1 => iteT (k _ s1)
  · rename_i e
    exact ha f e fun H1 s1 => iteF (hb (f.grow s1) q fun H2 s2 => k _ (s1.trans s2))
  · cases q
theorem st_not (ha : SemT K tA x) : SemT K (tNot tA) (dNot x) := fun {B Z os ρ σ H Q b} f q k => by
  unfold dNot at q
  split at q
  · rename_i c e
    cases q
    exact ha f e fun H1 s1 => k _ s1
  · cases q
def dTrue : Rho → Option Bool := fun _ => some true
theorem st_true : SemT K tTrue dTrue := fun f q k => by cases q; exact k _ (Same.refl _)
def dAndV (a b : DE) : DE := fun ρ => match a ρ with
  | some (.bl true) => b ρ
  | some (.bl false) => some (.bl false)
  | _ => none
def dNotV (a : DE) : DE := fun ρ => match a ρ with
  | some (.bl c) => some (.bl (!c))
  | _ => none
theorem si_andV (ha : SemB K ta a) (hb : SemI K tb b) : SemI K (tAndV ta tb) (dAndV a b) := fun {B Z os ρ σ H Q d} f q k => by
  unfold dAndV at q
  split at q
  · rename_i e
    exact ha f e fun v H1 s1 i1 => ⟨true, i1.isBl, iteT (hb (f.grow s1) q fun v H2 s2 => k _ _ (s1.trans s2))⟩
  · rename_i e
    cases q
    exact ha f e fun v H1 s1 i1 => ⟨false, i1.isBl, iteF (k _ _ s1 (.bl _))⟩
  · cases q
theorem si_notV (ha : SemB K ta a) : SemI K (tNotV ta) (dNotV a) := fun {B Z os ρ σ H Q d} f q k => by
  unfold dNotV at q
  split at q
  · rename_i c e
    cases q
    exact ha f e fun v H1 s1 i1 => ⟨c, i1.isBl, k _ _ s1 (.bl _)⟩
  · cases q
end
end
end VL
set_option Elab.async false
set_option linter.all false
set_option maxRecDepth 100000
namespace L2
open PySem PySem.Spec PyProof.Rows
section
variable {X : Cx} {pins : List (Addr × Obj)} {σ : St} {H : Hp} {s : Shared} {l : Addr} {xs : List V}
theorem Inv.lstR (I : Inv X pins σ H s) (hH : Rd H l (.lst xs)) : xs.length ≤ sizeLine ∧ ∃ (its : List Value) (n : Nat), Vals xs its ∧ xs.length = its.length ∧ s.heap.get? l = some { cls := .type "list", data := .seq its.toArray n } := by
  obtain ⟨z, its, n, r, e⟩ := hH.ok I.hok
  exact ⟨z, its, n, r, r.length, e⟩
theorem ix_seqK {K : PySem.W.Frag} (h : X.K = K) : IxR X (rIx K) := by subst h; exact ix_seq
theorem call_lenK {K : PySem.W.Frag} (h : X.K = K) : CallR X (.builtin "len") (fun xs H Q => ∃ x n, xs = [x] ∧ LenV K x H n ∧ Q (.int n) H) := by subst h; exact call_len
end
end L2
namespace VL
open PySem L2
open Classical
noncomputable section
section
variable [Tabs] {K : PySem.W.Frag} {ta tb tc : TE} {a b c : DE}
def dCons (a : DE) (es : Rho → Option (List D)) : Rho → Option (List D) := fun ρ => match a ρ with
  | some d => (match es ρ with
    | some ds => some (d :: ds)
    | none => none)
  | none => none
def dNil : Rho → Option (List D) := fun _ => some []
theorem dCons_some {a : DE} {es : Rho → Option (List D)} {ρ : Rho} {ds : List D} (h : dCons a es ρ = some ds) : ∃ d r, a ρ = some d ∧ es ρ = some r ∧ ds = d :: r := by
  unfold dCons at h
  split at h
  · rename_i d e1
    split at h
    · rename_i r e2
      exact ⟨d, r, e1, e2, (Option.some.inj h).symm⟩
    · cases h
  · cases h
theorem sa_nil : SemA K [] tNil dNil := fun f q k => by cases q; exact k _ _ (Same.refl _) .nil
theorem sa_own {ms : List Bool} {tr : TA} {es : Rho → Option (List D)} (ha : SemI K ta a) (hr : SemA K ms tr es) : SemA K (true :: ms) (tCons ta tr) (dCons a es) := fun {B Z os ρ σ H Q ds} f q k => by
  obtain ⟨d, r, e1, e2, rfl⟩ := dCons_some q
  exact ha f e1 fun v H1 s1 i1 => hr (f.grow s1) e2 fun vs H2 s2 i2 => k _ _ (s1.trans s2) (.own (i1.same s2) i2)
theorem sa_any {ms : List Bool} {tr : TA} {es : Rho → Option (List D)} (ha : SemB K ta a) (hr : SemA K ms tr es) : SemA K (false :: ms) (tCons ta tr) (dCons a es) := fun {B Z os ρ σ H Q ds} f q k => by
  obtain ⟨d, r, e1, e2, rfl⟩ := dCons_some q
  exact ha f e1 fun v H1 s1 i1 => hr (f.grow s1) e2 fun vs H2 s2 i2 => k _ _ (s1.trans s2) (.any (i1.same s2) i2)
theorem kp_new {T : Addr → Prop} {H : Hp} {p : Addr} {o : HO} (hp : H p = none) : Kp T H (fun a => a = p ∨ T a) (upd H p o) := fun a u e z => by
  have hne : a ≠ p := ne_of_none e hp
  exact ⟨by rw [upd_ne hne]; exact e, fun q => q.elim hne z⟩
theorem sf_lst {n : Nat} {t : TA} {es : Rho → Option (List D)} (h : SemA K (List.replicate n true) t es) (hn : n ≤ sizeLine) : SemF K (tLst t) es := fun {B Z os ρ σ H Q ds} f q k => by
  refine h f q fun vs H1 s1 a => ?_
  have hl : vs.length ≤ sizeLine := by have := a.len.1; rw [List.length_replicate] at this; omega
  exact ⟨hl, fun p hp => k p vs _ (s1.trans (same_new hp)) (Same.free s1 hp) upd_same hl (a.lown.kp (kp_new hp))⟩
def dTup (es : Rho → Option (List D)) : DE := fun ρ => (es ρ).map D.tup
theorem si_tup {n : Nat} {t : TA} {es : Rho → Option (List D)} (h : SemA K (List.replicate n true) t es) (hn : n ≤ sizeLine) : SemI K (tTup t) (dTup es) := fun {B Z os ρ σ H Q d} f q k => by
  unfold dTup at q
  cases q1 : es ρ with
  | none => rw [q1] at q; cases q
  | some ds =>
    rw [q1] at q
    cases q
    refine h f q1 fun vs H1 s1 a => ?_
    have hl : vs.length ≤ sizeLine := by have := a.len.1; rw [List.length_replicate] at this; omega
    exact ⟨hl, fun p hp => k _ _ (s1.trans (same_new hp)) (.tup ((f.grow s1).out hp) upd_same hl ((a.lown.kp (kp_new hp)).kp (Kp.less fun a z => .inr z)))⟩
def dLst (es : Rho → Option (List D)) : DE := fun ρ => (es ρ).map D.lst
theorem SemF.l {t : TE} {e : Rho → Option (List D)} (h : SemF K t e) : SemI K t (dLst e) := h.i
def ixD : D → Int → Option D
  | .lst ds, i => atI ds i
  | .tup ds, i => atI ds i
  | .scr ns, i => (atI ns i).map D.int
  | .str z, i => if z.length ≤ sizeLine then (atI z.cps.toList i).map fun c => .str ⟨#[c]⟩ else none
  | _, _ => none
theorem atI_is {H : Hp} {Z : Addr → Prop} {vs : List V} {ds : List D} {i : Int} {d : D} (r : IsL K H Z vs ds) (h : atI ds i = some d) : ∃ v, atI vs i = some v ∧ Is K H Z v d := by
  unfold atI at h ⊢
  rw [r.length]
  cases e : ixN ds.length i with
  | none => rw [e] at h; cases h
  | some j =>
    rw [e] at h
    obtain ⟨v, e1, i1⟩ := r.get (i := j) (show ds[j]? = some d from h)
    exact ⟨v, e1, i1⟩
theorem atI_mapI {ns : List Int} {i : Int} {n : Int} (h : atI ns i = some n) : atI (ns.map V.int) i = some (.int n) := by
  unfold atI at h ⊢
  rw [List.length_map]
  cases e : ixN ns.length i with
  | none => rw [e] at h; cases h
  | some j =>
    rw [e] at h
    have h' : ns[j]? = some n := h
    show (ns.map V.int)[j]? = some (.int n)
    rw [List.getElem?_map, h']
    rfl
theorem ix_is {H : Hp} {Z : Addr → Prop} {v : V} {d e : D} {i : Int} {Q : VK} (h : Is K H Z v d) (q : ixD d i = some e) (k : ∀ u, Is K H Z u e → Q u H) : rIx K v (.int i) H Q := by
  cases h with
  | lst hz h hl r =>
    obtain ⟨u, e1, i1⟩ := atI_is r (show atI _ i = some e from q)
    exact .inl ⟨_, _, i, u, rfl, rfl, .inl h, e1, k u i1⟩
  | tup hz h hl r =>
    obtain ⟨u, e1, i1⟩ := atI_is r (show atI _ i = some e from q)
    exact .inr (.inl ⟨_, _, i, u, rfl, rfl, .inl (.inl h), e1, k u i1⟩)
  | str z =>
    have q : (if z.length ≤ sizeLine then (atI z.cps.toList i).map fun c => D.str ⟨#[c]⟩ else none) = some e := q
    by_cases c : z.length ≤ sizeLine
    · rw [if_pos c] at q
      cases e2 : atI z.cps.toList i with
      | none => rw [e2] at q; cases q
      | some cp =>
        rw [e2] at q
        cases q
        exact .inr (.inr ⟨z, i, cp, rfl, rfl, c, e2, k _ (.str _)⟩)
    · rw [if_neg c] at q; cases q
  | @scr p ns hz h hl =>
    have q : (atI ns i).map D.int = some e := q
    cases e2 : atI ns i with
    | none => rw [e2] at q; cases q
    | some n => rw [e2] at q; cases q; exact .inl ⟨_, _, i, _, rfl, rfl, .inl h, atI_mapI e2, k _ (.int n)⟩
  | @scrK p ns h hl =>
    have q : (atI ns i).map D.int = some e := q
    cases e2 : atI ns i with
    | none => rw [e2] at q; cases q
    | some n => rw [e2] at q; cases q; exact .inl ⟨_, _, i, _, rfl, rfl, .inr h, atI_mapI e2, k _ (.int n)⟩
  | _ => cases q
def dIx (a b : DE) : DE := fun ρ => match a ρ with
  | some d => (match b ρ with
    | some (.int i) => ixD d i
    | _ => none)
  | none => none
theorem dIx_some {ρ : Rho} {d : D} (h : dIx a b ρ = some d) : ∃ e i, a ρ = some e ∧ b ρ = some (.int i) ∧ ixD e i = some d := by
  unfold dIx at h
  split at h
  · rename_i e e1
    split at h
    · rename_i i e2
      exact ⟨e, i, e1, e2, h⟩
    · cases h
  · cases h
theorem sb_ix (ha : SemB K ta a) (hb : SemB K tb b) : SemB K (tOp (rIx K) ta tb) (dIx a b) := fun {B Z os ρ σ H Q d} f q k => by
  obtain ⟨e, i, e1, e2, e3⟩ := dIx_some q
  refine ha f e1 fun v H1 s1 i1 => hb (f.grow s1) e2 fun u H2 s2 i2 => ?_
  rw [i2.isInt]
  exact ix_is (i1.same s2) e3 fun w i3 => k _ _ (s1.trans s2) i3
theorem si_ix (ha : SemI K ta a) (hb : SemB K tb b) : SemI K (tOp (rIx K) ta tb) (dIx a b) := fun {B Z os ρ σ H Q d} f q k => by
  obtain ⟨e, i, e1, e2, e3⟩ := dIx_some q
  refine ha f e1 fun v H1 s1 i1 => hb (f.grow s1) e2 fun u H2 s2 i2 => ?_
  rw [i2.isInt]
  exact ix_is (i1.same s2) e3 fun w i3 => k _ _ (s1.trans s2) i3
def D.v : D → V
  | .bl b => .bl b
  | .int i => .int i
  | .str x => .str x
  | .ty n => .ty n
  | _ => .non
theorem D.v_is {H : Hp} {Z : Addr → Prop} {d : D} (h : d.scal = true) : Is K H Z d.v d := by
  cases d with
  | non => exact .non
  | bl b => exact .bl b
  | int b => exact .int b
  | str b => exact .str b
  | ty b => exact .ty b
  | _ => cases h
def dF1 (g : D → Option D) (a : DE) : DE := fun ρ => match a ρ with
  | some d => g d
  | none => none
theorem si_f1 {r : List V → Hp → VK → Prop} {g : D → Option D} (hg : ∀ {H v d e} {Q : VK}, Is K H No v d → g d = some e → e.scal = true ∧ (Q e.v H → r [v] H Q)) (ha : SemB K ta a) : SemI K (tCB r (tCons ta tNil)) (dF1 g a) := fun {B Z os ρ σ H Q d} f q k => by
  unfold dF1 at q
  split at q
  · rename_i e e1
    refine ha f e1 fun v H1 s1 i1 => ?_
    obtain ⟨hs, hr⟩ := hg (Q := Q) i1 q
    exact hr (k _ _ s1 (D.v_is hs))
  · cases q
def lenD : D → Option D
  | .lst ds => some (.int ds.length)
  | .tup ds => some (.int ds.length)
  | .scr ns => some (.int ns.length)
  | .str y => if y.length ≤ sizeLine then some (.int y.length) else none
  | _ => none
theorem len_is {H : Hp} {v : V} {d e : D} {Q : VK} (h : Is K H No v d) (q : lenD d = some e) : e.scal = true ∧ (Q e.v H → ∃ x n, [v] = [x] ∧ LenV K x H n ∧ Q (.int n) H) := by
  cases h with
  | lst hz h hl r => cases q; exact ⟨rfl, fun k => ⟨_, _, rfl, .inl ⟨_, .inl h, rfl⟩, by rw [r.length]; exact k⟩⟩
  | tup hz h hl r => cases q; exact ⟨rfl, fun k => ⟨_, _, rfl, .inr ⟨_, .inl (.inl h), rfl⟩, by rw [r.length]; exact k⟩⟩
  | str z =>
    have q : (if z.length ≤ sizeLine then some (D.int z.length) else none) = some e := q
    by_cases c : z.length ≤ sizeLine
    · rw [if_pos c] at q; cases q; exact ⟨rfl, fun k => ⟨_, _, rfl, ⟨c, rfl⟩, k⟩⟩
    · rw [if_neg c] at q; cases q
  | scr hz h hl => cases q; exact ⟨rfl, fun k => ⟨_, _, rfl, .inl ⟨_, .inl h, rfl⟩, by rw [List.length_map]; exact k⟩⟩
  | scrK h hl => cases q; exact ⟨rfl, fun k => ⟨_, _, rfl, .inl ⟨_, .inr h, rfl⟩, by rw [List.length_map]; exact k⟩⟩
  | _ => cases q
theorem si_len (ha : SemB K ta a) : SemI K (tCB (fun xs H Q => ∃ x n, xs = [x] ∧ LenV K x H n ∧ Q (.int n) H) (tCons ta tNil)) (dF1 lenD a) := si_f1 (fun h q => len_is h q) ha
def asInts : List D → Option (List Int)
  | [] => some []
  | .int i :: r => (asInts r).map (i :: ·)
  | _ => none
def ofInts (g : List Int → Option D) : D → Option D
  | .lst ds => (asInts ds).bind g
  | _ => none
def dMax2 : DE → DE → DE := dII fun i j => some (.int (if j > i then j else i))
theorem si_max2 (ha : SemB K ta a) (hb : SemB K tb b) : SemI K (tCB (fun xs H Q => ∃ i j, xs = [.int i, .int j] ∧ Q (.int (if j > i then j else i)) H) (tCons ta (tCons tb tNil))) (dMax2 a b) := fun {B Z os ρ σ H Q d} f q k => by
  obtain ⟨i, j, e1, e2, e3⟩ := dII_some q
  cases e3
  refine ha f e1 fun v H1 s1 i1 => hb (f.grow s1) e2 fun u H2 s2 i2 => ⟨i, j, by rw [i1.isInt, i2.isInt], k _ _ (s1.trans s2) (.int _)⟩
def intD : D → Option D
  | .int i => some (.int i)
  | .bl b => some (.int (if b = true then 1 else 0))
  | _ => none
theorem si_intF (ha : SemB K ta a) : SemI K (tCB (fun xs H Q => (∃ i, xs = [.int i] ∧ Q (.int i) H) ∨ ∃ k, xs = [.bl k] ∧ Q (.int (if k then 1 else 0)) H) (tCons ta tNil)) (dF1 intD a) := by
  refine si_f1 (fun h q => ?_) ha
  cases h with
  | int i => cases q; exact ⟨rfl, fun k => .inl ⟨i, rfl, k⟩⟩
  | bl b => cases q; exact ⟨rfl, fun k => .inr ⟨b, rfl, k⟩⟩
  | _ => cases q
def D.tyn : D → String
  | .non => "NoneType"
  | .bl _ => "bool"
  | .int _ => "int"
  | .str _ => "str"
  | .lst _ => "list"
  | .tup _ => "tuple"
  | .ty _ => "type"
  | .ins _ => "object"
  | .scr _ => "script"
def isiT : String → String → Option Bool
  | "int", "int" => some true
  | "int", "bool" => some false
  | "int", "list" => some false
  | "int", "tuple" => some false
  | "int", "str" => some false
  | "bool", "int" => some true
  | "bool", "bool" => some true
  | "bool", "list" => some false
  | "bool", "tuple" => some false
  | "list", "list" => some true
  | "list", "tuple" => some false
  | "list", "int" => some false
  | "list", "str" => some false
  | "tuple", "tuple" => some true
  | "tuple", "list" => some false
  | "tuple", "int" => some false
  | "str", "str" => some true
  | "str", "list" => some false
  | "str", "int" => some false
  | "NoneType", "int" => some false
  | "NoneType", "list" => some false
  | "NoneType", "tuple" => some false
  | _, _ => none
def dIsi (n : String) (a : DE) : DE := fun ρ => match a ρ with
  | some d => (isiT d.tyn n).map D.bl
  | none => none
theorem isiT_kit {x n : String} {b : Bool} (h : isiT x n = some b) : PySem.W.kitOne K (.type x) (.type n) = some b := by
  unfold isiT at h
  split at h <;> first | (cases h; rfl) | (cases h; with_unfolding_all rfl) | cases h
theorem tyOf_is {H : Hp} {v : V} {d : D} {n : String} {b : Bool} (h : Is K H No v d) (e : isiT d.tyn n = some b) : TyOf K H v (.type d.tyn) := by
  cases h with
  | non => exact .non
  | bl b => exact .bl b
  | int b => exact .int b
  | str b => exact .str b
  | ty n => unfold isiT at e; simp [D.tyn] at e
  | lst hz h hl r => rcases h with h | ⟨o, h⟩; exact .lst h; exact .frz h
  | tup hz h hl r => exact .tup h
  | ins _ _ => unfold isiT at e; simp [D.tyn] at e
  | scr _ _ _ => unfold isiT at e; simp [D.tyn] at e
  | scrK _ _ => unfold isiT at e; simp [D.tyn] at e
theorem si_isi {n : String} (ha : SemB K ta a) : SemI K (tCB (fun xs H Q => ∃ x n t b, xs = [x, .ty n] ∧ TyOf K H x t ∧ PySem.W.kitOne K t (.type n) = some b ∧ Q (.bl b) H) (tCons ta (tCons (tC (.ty n)) tNil))) (dIsi n a) := fun {B Z os ρ σ H Q d} f q k => by
  unfold dIsi at q
  split at q
  · rename_i e e1
    cases q1 : isiT e.tyn n with
    | none => rw [q1] at q; cases q
    | some b =>
      rw [q1] at q
      cases q
      exact ha f e1 fun v H1 s1 i1 => ⟨v, n, _, b, rfl, tyOf_is i1 q1, isiT_kit q1, k _ _ s1 (.bl b)⟩
  · cases q
def cutL {α : Type} (xs : List α) (lo hi : Option Int) : List α := (xs.drop (HT.sIx xs.length 0 lo)).take (HT.sIx xs.length xs.length hi - HT.sIx xs.length 0 lo)
theorem cut_is {H : Hp} {Z : Addr → Prop} {vs : List V} {ds : List D} {lo hi : Option Int} (r : IsL K H Z vs ds) : IsL K H Z (cutV vs lo hi) (cutL ds lo hi) := by
  unfold cutV cutL
  rw [r.length]
  exact (r.drop _).take _
def SemO (K : PySem.W.Frag) (t : TO) (e : Rho → Option (Option Int)) : Prop := ∀ {B : Hp} {Z : Addr → Prop} {os : Own} {ρ : Rho} {σ : L2.St} {H : Hp} {Q : Option Int → Hp → Prop} {o : Option Int}, Fr K B Z os ρ σ H → e ρ = some o → (∀ H', Same H H' → Q o H') → t σ H Q
def oNone : Rho → Option (Option Int) := fun _ => some none
def oSome (a : DE) : Rho → Option (Option Int) := fun ρ => match a ρ with
  | some (.int i) => some (some i)
  | _ => none
theorem so_none : SemO K tNoPart oNone := fun f q k => by cases q; exact k _ (Same.refl _)
theorem so_some (ha : SemB K ta a) : SemO K (tPart ta) (oSome a) := fun {B Z os ρ σ H Q o} f q k => by
  unfold oSome at q
  split at q
  · rename_i i e
    cases q
    exact ha f e fun v H1 s1 i1 => ⟨i, i1.isInt, k _ s1⟩
  · cases q
def asL (a : DE) : Rho → Option (List D) := fun ρ => match a ρ with
  | some d => lof d
  | none => none
theorem asL_some {a : DE} {ρ : Rho} {ds : List D} (h : asL a ρ = some ds) : ∃ d, a ρ = some d ∧ lof d = some ds := by
  unfold asL at h
  split at h
  · exact ⟨_, by assumption, h⟩
  · cases h
def dSl (a : DE) (lo hi : Rho → Option (Option Int)) : Rho → Option (List D) := fun ρ => match asL a ρ with
  | some ds => (match lo ρ with
    | some l => (match hi ρ with
      | some h => some (cutL ds l h)
      | none => none)
    | none => none)
  | _ => none
theorem dSl_some {lo hi : Rho → Option (Option Int)} {ρ : Rho} {ds : List D} (h : dSl a lo hi ρ = some ds) : ∃ es l u, asL a ρ = some es ∧ lo ρ = some l ∧ hi ρ = some u ∧ ds = cutL es l u := by
  unfold dSl at h
  split at h
  · rename_i es e1
    split at h
    · rename_i l e2
      split at h
      · rename_i u e3
        exact ⟨es, l, u, e1, e2, e3, (Option.some.inj h).symm⟩
      · cases h
    · cases h
  · cases h
theorem Is.isLst {H : Hp} {Z : Addr → Prop} {v : V} {ds : List D} (h : Is K H Z v (.lst ds)) : ∃ p vs, v = .ref p ∧ ¬ Z p ∧ Rd H p (.lst vs) ∧ vs.length ≤ sizeLine ∧ IsL K H Z vs ds := by
  cases h with
  | lst hz h hl r => exact ⟨_, _, rfl, hz, h, hl, r⟩
theorem Is.isTup {H : Hp} {Z : Addr → Prop} {v : V} {ds : List D} (h : Is K H Z v (.tup ds)) : ∃ p vs, v = .ref p ∧ ¬ Z p ∧ H p = some (.tup vs) ∧ vs.length ≤ sizeLine ∧ IsL K H Z vs ds := by
  cases h with
  | tup hz h hl r => exact ⟨_, _, rfl, hz, h, hl, r⟩
theorem sf_sl {tl th : TO} {lo hi : Rho → Option (Option Int)} (ha : SemI K ta a) (hl : SemO K tl lo) (hh : SemO K th hi) : SemF K (tSl (rSlL K) ta tl th) (dSl a lo hi) := fun {B Z os ρ σ H Q ds} f q k => by
  obtain ⟨es, l, u, e1, e2, e3, rfl⟩ := dSl_some q
  obtain ⟨d, e1, ed⟩ := asL_some e1
  refine ha f e1 fun v H1 s1 i1 => hl (f.grow s1) e2 fun H2 s2 => hh (f.grow (s1.trans s2)) e3 fun H3 s3 => ?_
  obtain ⟨p, vs, rfl, hn, _, hr⟩ := i1.seq ed
  obtain ⟨hr, r⟩ := hr H3 _ (Kp.same (s2.trans s3))
  have s13 := (s1.trans s2).trans s3
  exact ⟨p, vs, rfl, hr, fun n hn' => k n _ _ (s13.trans (same_new hn')) (Same.free s13 hn') upd_same (Nat.le_trans (cutV_length _ _ _) hn) ((cut_is r).kp (kp_new hn'))⟩
def flatL (ds : List D) : Bool := ds.all D.scal
theorem IsL.flat {H H' : Hp} {Z Z' : Addr → Prop} : ∀ {vs : List V} {ds : List D}, IsL K H Z vs ds → flatL ds = true → IsL K H' Z' vs ds
  | _, _, .nil, _ => .nil
  | _, _, .cons h r, e => by
    have e := (Bool.and_eq_true _ _).mp (show (D.scal _ && flatL _) = true from e)
    exact .cons (h.scal e.1) (r.flat e.2)
def gFlat (e : Rho → Option (List D)) : Rho → Option (List D) := fun ρ => match e ρ with
  | some ds => if flatL ds = true then some ds else none
  | none => none
theorem gFlat_some {e : Rho → Option (List D)} {ρ : Rho} {ds : List D} (h : gFlat e ρ = some ds) : e ρ = some ds ∧ flatL ds = true := by
  unfold gFlat at h
  split at h
  · rename_i es e1
    by_cases c : flatL es = true
    · rw [if_pos c] at h; cases h; exact ⟨e1, c⟩
    · rw [if_neg c] at h; cases h
  · cases h
theorem sf_slB {tl th : TO} {lo hi : Rho → Option (Option Int)} (ha : SemB K ta a) (hl : SemO K tl lo) (hh : SemO K th hi) : SemF K (tSl (rSlL K) ta tl th) (gFlat (dSl a lo hi)) := fun {B Z os ρ σ H Q ds} f q k => by
  obtain ⟨q, hf⟩ := gFlat_some q
  obtain ⟨es, l, u, e1, e2, e3, rfl⟩ := dSl_some q
  obtain ⟨d, e1, ed⟩ := asL_some e1
  refine ha f e1 fun v H1 s1 i1 => hl (f.grow s1) e2 fun H2 s2 => hh (f.grow (s1.trans s2)) e3 fun H3 s3 => ?_
  obtain ⟨p, vs, rfl, hn, _, hr⟩ := i1.seq ed
  obtain ⟨hr, r⟩ := hr H3 _ (Kp.same (s2.trans s3))
  have s13 := (s1.trans s2).trans s3
  exact ⟨p, vs, rfl, hr, fun n hn' => k n _ _ (s13.trans (same_new hn')) (Same.free s13 hn') upd_same (Nat.le_trans (cutV_length _ _ _) hn) ((cut_is r).flat hf)⟩
def dLof (a : DE) : Rho → Option (List D) := fun ρ => match a ρ with
  | some (.tup ds) => some ds
  | some d => lof d
  | _ => none
theorem dLof_some {ρ : Rho} {ds : List D} (h : dLof a ρ = some ds) : a ρ = some (.tup ds) ∨ ∃ d, a ρ = some d ∧ lof d = some ds := by
  unfold dLof at h
  split at h
  · rename_i es e; cases h; exact .inl e
  · rename_i d _ e; exact .inr ⟨d, e, h⟩
  · cases h
theorem sf_list (ha : SemI K ta a) : SemF K (tCB (fun xs H Q => ∃ p ys, xs = [.ref p] ∧ (SqL K H p ys ∨ SqT K H p ys) ∧ ∀ l, H l = none → Q (.ref l) (upd H l (.lst ys))) (tCons ta tNil)) (dLof a) := fun {B Z os ρ σ H Q ds} f q k => by
  rcases dLof_some q with e1 | ⟨d, e1, ed⟩
  · refine ha f e1 fun v H1 s1 i1 => ?_
    obtain ⟨p, vs, rfl, hz, hr, hn, r⟩ := i1.isTup
    exact ⟨p, vs, rfl, .inr (.inl (.inl hr)), fun n hn' => k n _ _ (s1.trans (same_new hn')) (Same.free s1 hn') upd_same hn (r.kp (kp_new hn'))⟩
  · refine ha f e1 fun v H1 s1 i1 => ?_
    obtain ⟨p, vs, rfl, hn, _, hr⟩ := i1.seq ed
    obtain ⟨hr, r⟩ := hr H1 _ Kp.refl
    exact ⟨p, vs, rfl, .inl hr, fun n hn' => k n _ _ (s1.trans (same_new hn')) (Same.free s1 hn') upd_same hn (r.kp (kp_new hn'))⟩
theorem sf_listB (ha : SemB K ta a) : SemF K (tCB (fun xs H Q => ∃ p ys, xs = [.ref p] ∧ (SqL K H p ys ∨ SqT K H p ys) ∧ ∀ l, H l = none → Q (.ref l) (upd H l (.lst ys))) (tCons ta tNil)) (gFlat (dLof a)) := fun {B Z os ρ σ H Q ds} f q k => by
  obtain ⟨q, hf⟩ := gFlat_some q
  rcases dLof_some q with e1 | ⟨d, e1, ed⟩
  · refine ha f e1 fun v H1 s1 i1 => ?_
    obtain ⟨p, vs, rfl, hz, hr, hn, r⟩ := i1.isTup
    exact ⟨p, vs, rfl, .inr (.inl (.inl hr)), fun n hn' => k n _ _ (s1.trans (same_new hn')) (Same.free s1 hn') upd_same hn (r.flat hf)⟩
  · refine ha f e1 fun v H1 s1 i1 => ?_
    obtain ⟨p, vs, rfl, hn, _, hr⟩ := i1.seq ed
    obtain ⟨hr, r⟩ := hr H1 _ Kp.refl
    exact ⟨p, vs, rfl, .inl hr, fun n hn' => k n _ _ (s1.trans (same_new hn')) (Same.free s1 hn') upd_same hn (r.flat hf)⟩
def dRep (a : Rho → Option (List D)) (b : DE) : Rho → Option (List D) := fun ρ => match a ρ with
  | some ds => (match b ρ with
    | some (.int n) => if -(2 ^ 63) ≤ n ∧ n < 2 ^ 63 ∧ ds.length * n.toNat ≤ sizeLine then some (List.replicate n.toNat ds).flatten else none
    | _ => none)
  | none => none
theorem IsL.rep {H : Hp} {Z : Addr → Prop} {vs : List V} {ds : List D} (r : IsL K H Z vs ds) : ∀ n, IsL K H Z (List.replicate n vs).flatten (List.replicate n ds).flatten
  | 0 => .nil
  | n + 1 => by rw [List.replicate_succ, List.flatten_cons, List.replicate_succ, List.flatten_cons]; exact r.append (r.rep n)
theorem sf_rep {a : Rho → Option (List D)} (ha : SemF K ta a) (hb : SemB K tb b) : SemF K (tOp rRep ta tb) (dRep a b) := fun {B Z os ρ σ H Q ds} f q k => by
  unfold dRep at q
  split at q
  · rename_i es e1
    split at q
    · rename_i n e2
      by_cases c : -(2 ^ 63) ≤ n ∧ n < 2 ^ 63 ∧ es.length * n.toNat ≤ sizeLine
      · rw [if_pos c] at q
        cases q
        refine ha f e1 fun p vs H1 s1 hp hp' hl i1 => hb (f.grow s1) e2 fun u H2 s2 i2 => ?_
        rw [i2.isInt]
        have i1' := (i1.same s2).kp (Kp.less (Z' := tot Z os) fun a z => .inr z)
        have hlen : vs.length * n.toNat ≤ sizeLine := by rw [i1.length]; exact c.2.2
        have s12 := s1.trans s2
        refine ⟨p, n, vs, rfl, rfl, s2 _ _ hp', c.1, c.2.1, hlen, fun x hx => k x _ _ (s12.trans (same_new hx)) (Same.free s12 hx) upd_same ?_ ((i1'.rep _).kp (kp_new hx))⟩
        rw [len_rep, Nat.mul_comm]; exact hlen
      · rw [if_neg c] at q; cases q
    · cases q
  · cases q
end
end
end VL
set_option Elab.async false
set_option linter.all false
set_option maxRecDepth 100000
namespace VL
open PySem L2
open Classical
noncomputable section
instance : Inhabited D := ⟨.non⟩
theorem rd_lst {H : Hp} {a : Addr} {xs ys : List V} (h : Rd H a (.lst xs)) (h' : Rd H a (.lst ys)) : xs = ys := by
  rcases h with h | ⟨o, h⟩ <;> rcases h' with h' | ⟨o', h'⟩ <;> rw [h] at h' <;> cases h' <;> rfl
def cmpb : Nat → D → D → Bool
  | _, .int _, .int _ => true
  | _, .bl _, .bl _ => true
  | _, .str _, .str _ => true
  | _, .non, .non => true
  | n + 1, .lst xs, .lst ys => decide (xs.length ≠ ys.length) || (List.zip xs ys).all fun p => cmpb n p.1 p.2
  | n + 1, .tup xs, .tup ys => decide (xs.length = ys.length) && (List.zip xs ys).all fun p => cmpb n p.1 p.2
  | _, _, _ => false
theorem zip_at {xs ys : List D} {j : Nat} {a b : D} {p : D × D → Bool} (h : (List.zip xs ys).all p = true) (e1 : xs[j]? = some a) (e2 : ys[j]? = some b) : p (a, b) = true :=
  List.all_eq_true.mp h _ (List.mem_of_getElem? (i := j) (List.getElem?_zip_eq_some.mpr ⟨e1, e2⟩))
inductive Cm : Nat → D → D → Prop
  | int {n : Nat} (a b : Int) : Cm n (.int a) (.int b)
  | bl {n : Nat} (a b : Bool) : Cm n (.bl a) (.bl b)
  | str {n : Nat} (a b : Str) : Cm n (.str a) (.str b)
  | non {n : Nat} : Cm n .non .non
  | lst {n : Nat} {xs ys : List D} (h : xs.length = ys.length → (List.zip xs ys).all (fun p => cmpb n p.1 p.2) = true) : Cm (n + 1) (.lst xs) (.lst ys)
  | tup {n : Nat} {xs ys : List D} (hl : xs.length = ys.length) (h : (List.zip xs ys).all (fun p => cmpb n p.1 p.2) = true) : Cm (n + 1) (.tup xs) (.tup ys)
theorem cmpb_inv {n : Nat} {d e : D} (hc : cmpb n d e = true) : Cm n d e := by
  unfold cmpb at hc
  split at hc
  · exact .int _ _
  · exact .bl _ _
  · exact .str _ _
  · exact .non
  · exact .lst fun hl => by simpa [hl] using hc
  · rw [Bool.and_eq_true] at hc; exact .tup (of_decide_eq_true hc.1) hc.2
  · cases hc
theorem Is.v_int {H : Hp} {Z : Addr → Prop} {v : V} {a : Int} (i : Is K H Z v (.int a)) : v = .int a := by cases i; rfl
theorem Is.v_bl {H : Hp} {Z : Addr → Prop} {v : V} {a : Bool} (i : Is K H Z v (.bl a)) : v = .bl a := by cases i; rfl
theorem Is.v_str {H : Hp} {Z : Addr → Prop} {v : V} {a : Str} (i : Is K H Z v (.str a)) : v = .str a := by cases i; rfl
theorem Is.v_non {H : Hp} {Z : Addr → Prop} {v : V} (i : Is K H Z v .non) : v = .non := by cases i; rfl
theorem Is.v_lst {H : Hp} {Z : Addr → Prop} {v : V} {ds : List D} (i : Is K H Z v (.lst ds)) : ∃ a vs, v = .ref a ∧ ¬ Z a ∧ Rd H a (.lst vs) ∧ vs.length ≤ sizeLine ∧ IsL K H Z vs ds := by
  cases i with | lst hz h hl r => exact ⟨_, _, rfl, hz, h, hl, r⟩
theorem Is.v_tup {H : Hp} {Z : Addr → Prop} {v : V} {ds : List D} (i : Is K H Z v (.tup ds)) : ∃ a vs, v = .ref a ∧ ¬ Z a ∧ H a = some (.tup vs) ∧ vs.length ≤ sizeLine ∧ IsL K H Z vs ds := by
  cases i with | tup hz h hl r => exact ⟨_, _, rfl, hz, h, hl, r⟩
theorem Is.inj {H : Hp} {Z Z' : Addr → Prop} : ∀ (n : Nat) {v : V} {d e : D}, cmpb n d e = true → Is K H Z v d → Is K H Z' v e → d = e := by
  intro n
  induction n using Nat.strongRecOn with | ind n ih => ?_
  have lists : ∀ {m : Nat}, m < n → ∀ {vs : List V} {ds es : List D}, (List.zip ds es).all (fun p => cmpb m p.1 p.2) = true → IsL K H Z vs ds → IsL K H Z' vs es → ds = es := by
    intro m hm vs ds es hc r r'
    have l1 := r.length
    have l2 := r'.length
    refine List.ext_getElem (by omega) fun k h1 h2 => ?_
    obtain ⟨v, e1, i1⟩ := r.get (List.getElem?_eq_getElem h1)
    obtain ⟨v', e2, i2⟩ := r'.get (List.getElem?_eq_getElem h2)
    rw [e1] at e2
    cases e2
    exact ih m hm (zip_at hc (List.getElem?_eq_getElem h1) (List.getElem?_eq_getElem h2)) i1 i2
  intro v d e hc i j
  cases cmpb_inv hc with
  | int => have h := i.v_int; rw [j.v_int] at h; cases h; rfl
  | bl => have h := i.v_bl; rw [j.v_bl] at h; cases h; rfl
  | str => have h := i.v_str; rw [j.v_str] at h; cases h; rfl
  | non => rfl
  | lst h =>
    obtain ⟨p, xs, rfl, z1, h1, l1, g1⟩ := i.v_lst
    obtain ⟨q, ys, e, z2, h2, l2, g2⟩ := j.v_lst
    cases e
    have e := rd_lst h1 h2
    subst e
    rw [lists (Nat.lt_succ_self _) (h (by have := g1.length; have := g2.length; omega)) g1 g2]
  | tup hl h =>
    obtain ⟨p, xs, rfl, z1, h1, l1, g1⟩ := i.v_tup
    obtain ⟨q, ys, e, z2, h2, l2, g2⟩ := j.v_tup
    cases e
    rw [h1] at h2
    cases h2
    rw [lists (Nat.lt_succ_self _) h g1 g2]
section
variable {X : Cx} {pins : List (Addr × Obj)} {σ : L2.St} {H : Hp} {s : Shared}
theorem dec_lst (xs ys : List D) : decide (D.lst xs = D.lst ys) = decide (xs = ys) := by
  rw [Bool.eq_iff_iff, decide_eq_true_iff, decide_eq_true_iff]
  exact ⟨fun h => D.lst.inj h, fun h => by rw [h]⟩
theorem dec_tup (xs ys : List D) : decide (D.tup xs = D.tup ys) = decide (xs = ys) := by
  rw [Bool.eq_iff_iff, decide_eq_true_iff, decide_eq_true_iff]
  exact ⟨fun h => D.tup.inj h, fun h => by rw [h]⟩
theorem dec_int (a b : Int) : decide (D.int a = D.int b) = (a == b) := by
  rw [Bool.eq_iff_iff, decide_eq_true_iff, beq_iff_eq]
  exact ⟨fun h => D.int.inj h, fun h => by rw [h]⟩
theorem dec_bl (a b : Bool) : decide (D.bl a = D.bl b) = (a == b) := by
  rw [Bool.eq_iff_iff, decide_eq_true_iff, beq_iff_eq]
  exact ⟨fun h => D.bl.inj h, fun h => by rw [h]⟩
theorem dec_str (a b : Str) : decide (D.str a = D.str b) = (a == b) := by
  rw [Bool.eq_iff_iff, decide_eq_true_iff, beq_iff_eq]
  exact ⟨fun h => D.str.inj h, fun h => by rw [h]⟩
theorem rc_tups {A : Around} {l b : Addr} {us ws : List Value} {ns ms : List D} (p1 : s.heap.IsTuple l us.toArray) (p2 : s.heap.IsTuple b ws.toArray) (hl : us.length = ns.length) (hl2 : ws.length = ms.length) (hs : ns.length = ms.length) (hu : A.units < cLine)
    (h : ∀ (j : Nat) (u v : Value) (a b : D), us[j]? = some u → ws[j]? = some v → ns[j]? = some a → ms[j]? = some b → SeqAt.EqAt A.in1 s u v (decide (a = b))) :
    SeqAt.RcAt A s (.ref l) (.ref b) (decide (ns = ms)) := by
  have q := SeqAt.RcAt.tuples (e := fun j => decide (ns.getD j default = ms.getD j default)) p1 p2 hu (eqAt_items hl hl2 h)
  have e : ((List.range (min us.toArray.size ws.toArray.size)).all fun j => decide (ns.getD j default = ms.getD j default)) = decide (ns = ms) := by
    rw [List.size_toArray, List.size_toArray, hl, hl2, ← hs, Nat.min_self]; exact range_all_eq default hs
  have e2 : (us.toArray.size == ws.toArray.size) = true := by simp; omega
  rw [e, e2, Bool.and_true] at q
  exact q
theorem rcNe_tups {A : Around} {l b : Addr} {us ws : List Value} {ns ms : List D} (p1 : s.heap.IsTuple l us.toArray) (p2 : s.heap.IsTuple b ws.toArray) (hl : us.length = ns.length) (hl2 : ws.length = ms.length) (hs : ns.length = ms.length) (hu : A.units < cLine)
    (h : ∀ (j : Nat) (u v : Value) (a b : D), us[j]? = some u → ws[j]? = some v → ns[j]? = some a → ms[j]? = some b → SeqAt.EqAt A.in1 s u v (decide (a = b))) :
    SeqAt.RcNeAt A s (.ref l) (.ref b) (!decide (ns = ms)) := by
  have q := SeqAt.RcNeAt.tuples (e := fun j => decide (ns.getD j default = ms.getD j default)) p1 p2 hu (eqAt_items hl hl2 h)
  have e : ((List.range (min us.toArray.size ws.toArray.size)).all fun j => decide (ns.getD j default = ms.getD j default)) = decide (ns = ms) := by
    rw [List.size_toArray, List.size_toArray, hl, hl2, ← hs, Nat.min_self]; exact range_all_eq default hs
  have e2 : (us.toArray.size == ws.toArray.size) = true := by simp; omega
  rw [e, e2, Bool.and_true] at q
  exact q
theorem in1_units {A : Around} : A.in1.units = A.units + 1 := rfl
theorem items_is {n : Nat} {A : Around} {xs ys : List V} {us ws : List Value} {ds es : List D} (hc : (List.zip ds es).all (fun p => cmpb n p.1 p.2) = true) (r1 : Vals xs us) (r2 : Vals ys ws) (g1 : IsL K H No xs ds) (g2 : IsL K H No ys es)
    (ih : ∀ {v w : V} {d e : D} {u x : Value}, RelV v u → RelV w x → Is K H No v d → Is K H No w e → cmpb n d e = true → SeqAt.EqAt A s u x (decide (d = e))) :
    ∀ (j : Nat) (u v : Value) (a b : D), us[j]? = some u → ws[j]? = some v → ds[j]? = some a → es[j]? = some b → SeqAt.EqAt A s u v (decide (a = b)) := by
  intro j u v a b e1 e2 e3 e4
  obtain ⟨x, f1, i1⟩ := g1.get e3
  obtain ⟨y, f2, i2⟩ := g2.get e4
  obtain ⟨u', q1, k1⟩ := r1.get f1
  obtain ⟨v', q2, k2⟩ := r2.get f2
  rw [e1] at q1; cases q1
  rw [e2] at q2; cases q2
  exact ih k1 k2 i1 i2 (zip_at hc e3 e4)
theorem eqAt_is (I : Inv X pins σ H s) : ∀ (n : Nat) {A : Around}, A.units + n < cLine → ∀ {v w : V} {d e : D} {u x : Value}, RelV v u → RelV w x → Is K H No v d → Is K H No w e → cmpb n d e = true → SeqAt.EqAt A s u x (decide (d = e)) := by
  intro n
  induction n using Nat.strongRecOn with | ind n ih => ?_
  intro A hu v w d e u x r1 r2 i1 i2 hc
  have hc0 := hc
  cases cmpb_inv hc with
  | int a b => rw [i1.v_int] at r1; rw [i2.v_int] at r2; obtain ⟨t, rfl⟩ := r1; obtain ⟨t', rfl⟩ := r2; rw [dec_int]; exact SeqAt.EqAt.int_int a t b t'
  | bl a b => rw [i1.v_bl] at r1; rw [i2.v_bl] at r2; cases r1; cases r2; rw [dec_bl]; exact SeqAt.EqAt.bool_bool a b
  | str a b => rw [i1.v_str] at r1; rw [i2.v_str] at r2; obtain ⟨t, rfl⟩ := r1; obtain ⟨t', rfl⟩ := r2; rw [dec_str]; exact SeqAt.EqAt.str_str a t b t'
  | non => rw [i1.v_non] at r1; rw [i2.v_non] at r2; cases r1; cases r2; rw [decide_eq_true rfl]; exact SeqAt.EqAt.same _
  | @lst n ds es h =>
    have j1 := i1
    have j2 := i2
    obtain ⟨p, xs, rfl, z1, h1, l1, g1⟩ := i1.v_lst
    obtain ⟨q, ys, rfl, z2, h2, l2, g2⟩ := i2.v_lst
    cases r1
    cases r2
    by_cases hpq : p = q
    · subst hpq
      rw [decide_eq_true (Is.inj _ hc0 j1 j2)]
      exact SeqAt.EqAt.same _
    · obtain ⟨_, us, m1, k1, n1, o1⟩ := I.lstR h1
      obtain ⟨_, ws, m2, k2, n2, o2⟩ := I.lstR h2
      rw [dec_lst]
      have e1 := g1.length
      have e2 := g2.length
      refine SeqAt.EqAt.of_refs hpq ?_
      by_cases hl : ds.length = es.length
      · exact rcAt_lists ⟨_, o1, rfl, _, rfl⟩ ⟨_, o2, rfl, _, rfl⟩ (by omega) (by omega) (by omega) (items_is (h hl) k1 k2 g1 g2 (ih n (Nat.lt_succ_self _) (by rw [in1_units]; omega)))
      · have q := SeqAt.RcAt.lists_lengths (A := A) (s := s) (items := us.toArray) (items2 := ws.toArray) ⟨_, o1, rfl, _, rfl⟩ ⟨_, o2, rfl, _, rfl⟩ (by simp; omega) (by omega)
        have e : decide (ds = es) = false := decide_eq_false fun z => hl (by rw [z])
        rw [e]
        exact q
  | @tup n ds es hl h =>
    have j1 := i1
    have j2 := i2
    obtain ⟨p, xs, rfl, z1, h1, l1, g1⟩ := i1.v_tup
    obtain ⟨q, ys, rfl, z2, h2, l2, g2⟩ := i2.v_tup
    cases r1
    cases r2
    by_cases hpq : p = q
    · subst hpq
      rw [decide_eq_true (Is.inj _ hc0 j1 j2)]
      exact SeqAt.EqAt.same _
    · obtain ⟨us, k1, o1, _⟩ := I.tuple (xs := xs) (.inl (.inl h1))
      obtain ⟨ws, k2, o2, _⟩ := I.tuple (xs := ys) (.inl (.inl h2))
      rw [dec_tup]
      have e1 := g1.length
      have e2 := g2.length
      have n1 := k1.length
      have n2 := k2.length
      exact SeqAt.EqAt.of_refs hpq (rc_tups o1 o2 (by omega) (by omega) hl (by omega) (items_is h k1 k2 g1 g2 (ih n (Nat.lt_succ_self _) (by rw [in1_units]; omega))))
def rEqD (K : PySem.W.Frag) (neg : Bool) : R2 := fun x y H Q => ∃ d e, Is K H No x d ∧ Is K H No y e ∧ cmpb 20 d e = true ∧ Q (.bl (if neg = true then !decide (d = e) else decide (d = e))) H
theorem op_eqD (hu : X.A.units + 64 < cLine) : OpR X (compareOp .Eq) (rEqD K false) := by
  intro pins s σ H x y v u Q I rx ry h
  obtain ⟨d, e, i1, i2, hc, h⟩ := h
  rw [if_neg Bool.false_ne_true] at h
  cases cmpb_inv hc with
  | int a b => obtain rfl := i1.v_int; obtain rfl := i2.v_int; exact op_eq pins s σ H _ _ v u Q I rx ry ⟨rfl, by rw [show decide (V.int a = V.int b) = decide (D.int a = D.int b) from decide_eq_decide.mpr ⟨fun q => by cases q; rfl, fun q => by cases q; rfl⟩]; exact h⟩
  | bl a b => obtain rfl := i1.v_bl; obtain rfl := i2.v_bl; exact op_eq pins s σ H _ _ v u Q I rx ry ⟨rfl, by rw [show decide (V.bl a = V.bl b) = decide (D.bl a = D.bl b) from decide_eq_decide.mpr ⟨fun q => by cases q; rfl, fun q => by cases q; rfl⟩]; exact h⟩
  | str a b => obtain rfl := i1.v_str; obtain rfl := i2.v_str; exact op_eq pins s σ H _ _ v u Q I rx ry ⟨rfl, by rw [show decide (V.str a = V.str b) = decide (D.str a = D.str b) from decide_eq_decide.mpr ⟨fun q => by cases q; rfl, fun q => by cases q; rfl⟩]; exact h⟩
  | non => obtain rfl := i1.v_non; obtain rfl := i2.v_non; exact op_eq pins s σ H _ _ v u Q I rx ry ⟨rfl, by rw [show decide (V.non = V.non) = decide (D.non = D.non) from decide_eq_decide.mpr ⟨fun q => rfl, fun q => rfl⟩]; exact h⟩
  | @lst n ds es hh =>
    obtain ⟨p, xs, rfl, z1, h1, l1, g1⟩ := i1.v_lst
    obtain ⟨q, ys, rfl, z2, h2, l2, g2⟩ := i2.v_lst
    cases rx
    cases ry
    obtain ⟨_, us, m1, k1, n1, o1⟩ := I.lstR h1
    obtain ⟨_, ws, m2, k2, n2, o2⟩ := I.lstR h2
    rw [dec_lst] at h
    have e1 := g1.length
    have e2 := g2.length
    by_cases hl : ds.length = es.length
    · exact rcAt_lists ⟨_, o1, rfl, _, rfl⟩ ⟨_, o2, rfl, _, rfl⟩ (by omega) (by omega) (by omega) (items_is (hh hl) k1 k2 g1 g2 (eqAt_is I 19 (by rw [in1_units]; omega))) X.prog X.w X.xe _ ⟨.bl _, H, I, rfl, h⟩
    · have q := SeqAt.RcAt.lists_lengths (A := X.A) (s := s) (items := us.toArray) (items2 := ws.toArray) ⟨_, o1, rfl, _, rfl⟩ ⟨_, o2, rfl, _, rfl⟩ (by simp; omega) (by omega)
      have e : decide (ds = es) = false := decide_eq_false fun z => hl (by rw [z])
      rw [e] at h
      exact q X.prog X.w X.xe _ ⟨.bl _, H, I, rfl, h⟩
  | @tup n ds es hl hh =>
    obtain ⟨p, xs, rfl, z1, h1, l1, g1⟩ := i1.v_tup
    obtain ⟨q, ys, rfl, z2, h2, l2, g2⟩ := i2.v_tup
    cases rx
    cases ry
    obtain ⟨us, k1, o1, _⟩ := I.tuple (xs := xs) (.inl (.inl h1))
    obtain ⟨ws, k2, o2, _⟩ := I.tuple (xs := ys) (.inl (.inl h2))
    rw [dec_tup] at h
    have e1 := g1.length
    have e2 := g2.length
    have n1 := k1.length
    have n2 := k2.length
    exact rc_tups o1 o2 (by omega) (by omega) hl (by omega) (items_is hh k1 k2 g1 g2 (eqAt_is I 19 (by rw [in1_units]; omega))) X.prog X.w X.xe _ ⟨.bl _, H, I, rfl, h⟩
theorem op_neD (hu : X.A.units + 64 < cLine) : OpR X (compareOp .NotEq) (rEqD K true) := by
  intro pins s σ H x y v u Q I rx ry h
  obtain ⟨d, e, i1, i2, hc, h⟩ := h
  rw [if_pos rfl] at h
  cases cmpb_inv hc with
  | int a b => obtain rfl := i1.v_int; obtain rfl := i2.v_int; exact op_ne pins s σ H _ _ v u Q I rx ry ⟨rfl, by rw [show decide (V.int a = V.int b) = decide (D.int a = D.int b) from decide_eq_decide.mpr ⟨fun q => by cases q; rfl, fun q => by cases q; rfl⟩]; exact h⟩
  | bl a b => obtain rfl := i1.v_bl; obtain rfl := i2.v_bl; exact op_ne pins s σ H _ _ v u Q I rx ry ⟨rfl, by rw [show decide (V.bl a = V.bl b) = decide (D.bl a = D.bl b) from decide_eq_decide.mpr ⟨fun q => by cases q; rfl, fun q => by cases q; rfl⟩]; exact h⟩
  | str a b => obtain rfl := i1.v_str; obtain rfl := i2.v_str; exact op_ne pins s σ H _ _ v u Q I rx ry ⟨rfl, by rw [show decide (V.str a = V.str b) = decide (D.str a = D.str b) from decide_eq_decide.mpr ⟨fun q => by cases q; rfl, fun q => by cases q; rfl⟩]; exact h⟩
  | non => obtain rfl := i1.v_non; obtain rfl := i2.v_non; exact op_ne pins s σ H _ _ v u Q I rx ry ⟨rfl, by rw [show decide (V.non = V.non) = decide (D.non = D.non) from decide_eq_decide.mpr ⟨fun q => rfl, fun q => rfl⟩]; exact h⟩
  | @lst n ds es hh =>
    obtain ⟨p, xs, rfl, z1, h1, l1, g1⟩ := i1.v_lst
    obtain ⟨q, ys, rfl, z2, h2, l2, g2⟩ := i2.v_lst
    cases rx
    cases ry
    obtain ⟨_, us, m1, k1, n1, o1⟩ := I.lstR h1
    obtain ⟨_, ws, m2, k2, n2, o2⟩ := I.lstR h2
    rw [dec_lst] at h
    have e1 := g1.length
    have e2 := g2.length
    by_cases hl : ds.length = es.length
    · exact rcNeAt_lists ⟨_, o1, rfl, _, rfl⟩ ⟨_, o2, rfl, _, rfl⟩ (by omega) (by omega) (by omega) (items_is (hh hl) k1 k2 g1 g2 (eqAt_is I 19 (by rw [in1_units]; omega))) X.prog X.w X.xe _ ⟨.bl _, H, I, rfl, h⟩
    · have q := SeqAt.RcNeAt.lists_lengths (A := X.A) (s := s) (items := us.toArray) (items2 := ws.toArray) ⟨_, o1, rfl, _, rfl⟩ ⟨_, o2, rfl, _, rfl⟩ (by simp; omega) (by omega)
      have e : decide (ds = es) = false := decide_eq_false fun z => hl (by rw [z])
      rw [e] at h
      exact q X.prog X.w X.xe _ ⟨.bl _, H, I, rfl, h⟩
  | @tup n ds es hl hh =>
    obtain ⟨p, xs, rfl, z1, h1, l1, g1⟩ := i1.v_tup
    obtain ⟨q, ys, rfl, z2, h2, l2, g2⟩ := i2.v_tup
    cases rx
    cases ry
    obtain ⟨us, k1, o1, _⟩ := I.tuple (xs := xs) (.inl (.inl h1))
    obtain ⟨ws, k2, o2, _⟩ := I.tuple (xs := ys) (.inl (.inl h2))
    rw [dec_tup] at h
    have e1 := g1.length
    have e2 := g2.length
    have n1 := k1.length
    have n2 := k2.length
    exact rcNe_tups o1 o2 (by omega) (by omega) hl (by omega) (items_is hh k1 k2 g1 g2 (eqAt_is I 19 (by rw [in1_units]; omega))) X.prog X.w X.xe _ ⟨.bl _, H, I, rfl, h⟩
end
section
variable {ta tb : TE} {a b : DE}
def dEq (neg : Bool) (a b : DE) : DE := fun ρ => match a ρ with
  | some d => (match b ρ with
    | some e => if cmpb 20 d e = true then some (.bl (if neg = true then !decide (d = e) else decide (d = e))) else none
    | none => none)
  | none => none
theorem si_eq [Tabs] {neg : Bool} (ha : SemB K ta a) (hb : SemB K tb b) : SemI K (tOp (rEqD K neg) ta tb) (dEq neg a b) := fun {B Z os ρ σ H Q d} f q k => by
  unfold dEq at q
  split at q
  · rename_i x e1
    split at q
    · rename_i y e2
      by_cases c : cmpb 20 x y = true
      · rw [if_pos c] at q
        cases q
        exact ha f e1 fun v H1 s1 i1 => hb (f.grow s1) e2 fun u H2 s2 i2 => ⟨x, y, i1.same s2, i2, c, k _ _ (s1.trans s2) (.bl _)⟩
      · rw [if_neg c] at q; cases q
    · cases q
  · cases q
end
end
end VL
set_option Elab.async false
set_option linter.all false
set_option maxRecDepth 100000
namespace L2
open PySem PySem.Spec PyProof.Rows
section
variable {X : Cx}
def gSeq (K : PySem.W.Frag) (n : Nat) (t : TGs) : TG := fun v σ H Q => gTup K n t v σ H Q ∨ gLst K n t v σ H Q
theorem pg_seq {es : List Expr} {k : Nat} {t : TGs} {n : Nat} {pos : Pos} (hc : X.calm = true) (h : PGs X es t)
    (hn : (assignEach es X.env).length = n := by rfl) (hst : (assignEach es X.env).findIdx? (·.1) = none := by rfl) : PG X (.Tuple es k pos) (gSeq X.K n t) := by
  intro pins s σ H v u Q I r hw
  rcases hw with hw | hw
  · exact pg_tup hc h hn hst pins s σ H v u Q I r hw
  · exact pg_lst hc h hn hst pins s σ H v u Q I r hw
theorem pg_seqK {K : PySem.W.Frag} {es : List Expr} {k : Nat} {t : TGs} {n : Nat} {pos : Pos} (hK : X.K = K) (hc : X.calm = true) (h : PGs X es t)
    (hn : (assignEach es X.env).length = n := by rfl) (hst : (assignEach es X.env).findIdx? (·.1) = none := by rfl) : PG X (.Tuple es k pos) (gSeq K n t) := by
  subst hK
  exact pg_seq hc h hn hst
end
end L2
namespace VL
open PySem L2
open Classical
noncomputable section
variable [Tabs] {K : PySem.W.Frag}
def SemO' (K : PySem.W.Frag) (t : TE) (e : DE) : Prop := ∀ {B : Hp} {Z : Addr → Prop} {os : Own} {ρ : Rho} {σ : L2.St} {H : Hp} {Q : VK} {d : D}, Fr K B Z os ρ σ H → e ρ = some d → (∀ v H', Same H H' → Is K B No v d → Q v H') → t σ H Q
def dVarO (i : Nat) : DE := fun ρ => match ρ.getD i .un with
  | .bo d => some d
  | _ => none
theorem so_var (i : Nat) : SemO' K (tVar i) (dVarO i) := fun {B Z os ρ σ H Q d} f q k => by
  have s := f.sl i
  unfold dVarO at q
  cases e : ρ.getD i .un with
  | bo d' =>
    rw [e] at q s
    cases q
    obtain ⟨_, u, hu, i⟩ := s
    exact ⟨u, join_some hu, k u H (Same.refl _) i⟩
  | _ => rw [e] at q; cases q
def ER (K : PySem.W.Frag) (m : Bool) (Bx H : Hp) (T : Addr → Prop) (x : V) (d : D) : Prop := match m with
  | true => Is K H T x d
  | false => Is K Bx No x d
structure Walk (K : PySem.W.Frag) (m : Bool) (Bx : Hp) (J : It) (H1 : Hp) (T : Addr → Prop) (ds : List D) : Prop where
  len : ds.length ≤ sizeLine
  go : ∀ (i : Nat) (d : D) (H2 : Hp) (T2 : Addr → Prop), Kp T H1 T2 H2 → Same Bx H2 → (∀ a, T2 a → ∃ o, H2 a = some o) → ds[i]? = some d → J.go i H2 ∧ ∀ x H3, J.yld i H2 x H3 → Same H2 H3 ∧ ER K m Bx H3 T2 x d
  stop : ∀ (i : Nat) (H2 : Hp) (T2 : Addr → Prop), Kp T H1 T2 H2 → Same Bx H2 → ds.length = i → J.stop i H2
def SemW (K : PySem.W.Frag) (m : Bool) (wi : TI) (e : Rho → Option (List D)) : Prop := ∀ {B : Hp} {Z : Addr → Prop} {os : Own} {ρ : Rho} {σ : L2.St} {H : Hp} {R : It → Hp → Prop} {ds : List D}, Fr K B Z os ρ σ H → e ρ = some ds → (∀ J H1, Same H H1 → Walk K m B J H1 (tot Z os) ds → R J H1) → wi σ H R
def SemWC (K : PySem.W.Frag) (m : Bool) (wi : TI) (e : Rho → Option (List D)) : Prop := ∀ {B : Hp} {Z : Addr → Prop} {os : Own} {ρ : Rho} {σ : L2.St} {H : Hp} {R : It → Hp → Prop} {ds : List D}, Fr K B Z os ρ σ H → e ρ = some ds → (∀ J H1, Same H H1 → Walk K m H1 J H1 (tot Z os) ds → R J H1) → wi σ H R
theorem SemW.c {wi : TI} {e : Rho → Option (List D)} (h : SemW K true wi e) : SemWC K true wi e := fun f q k => h f q fun J H1 s w => k J H1 s ⟨w.len, fun i d H2 T2 kp sm hd e => w.go i d H2 T2 kp ((f.keep.trans s).trans sm) hd e, fun i H2 T2 kp sm hl => w.stop i H2 T2 kp ((f.keep.trans s).trans sm) hl⟩
theorem Rd.same {H H' : Hp} {a : Addr} {u : HO} (h : Rd H a u) (s : Same H H') : Rd H' a u := by
  rcases h with h | ⟨o, h⟩
  · exact .inl (s _ _ h)
  · exact .inr ⟨o, s _ _ h⟩
theorem walk_list {m : Bool} {Bx H1 : Hp} {T : Addr → Prop} {p : Addr} {vs : List V} {ds : List D} (hl : ds.length ≤ sizeLine) (hd0 : ∀ H2 T2, Kp T H1 T2 H2 → Same Bx H2 → SqL K H2 p vs) (hn : vs.length = ds.length)
    (hi : ∀ H2 T2 (i : Nat) v d, Kp T H1 T2 H2 → Same Bx H2 → vs[i]? = some v → ds[i]? = some d → ER K m Bx H2 T2 v d) : Walk K m Bx (Itl K p) H1 T ds := by
  refine ⟨hl, fun i d H2 T2 kp sb hd e => ?_, fun i H2 T2 kp sb hi => ⟨vs, hd0 H2 T2 kp sb, by omega⟩⟩
  have hr2 := hd0 H2 T2 kp sb
  have hi' : i < vs.length := by rw [hn]; exact (List.getElem?_eq_some_iff.mp e).1
  have e1 : vs[i]? = some vs[i] := List.getElem?_eq_getElem hi'
  refine ⟨⟨vs, _, hr2, e1⟩, fun x H3 ⟨e3, hx⟩ => ?_⟩
  subst e3
  have := hx vs hr2
  rw [e1] at this
  cases this
  exact ⟨Same.refl _, hi _ T2 i _ d kp sb e1 e⟩
theorem sw_list {tl : TE} {a : DE} (ha : SemI K tl a) : SemW K true (iList K tl) (asL a) := fun {B Z os ρ σ H R ds} f q k => by
  obtain ⟨d, q, ed⟩ := asL_some q
  refine ha f q fun v H1 s1 i1 => ?_
  obtain ⟨p, vs, rfl, hl, hn, hr⟩ := i1.seq ed
  refine ⟨p, rfl, ⟨vs, (hr H1 _ Kp.refl).1⟩, k _ _ s1 (walk_list (vs := vs) (by omega) (fun H2 T2 kp _ => (hr H2 T2 kp).1) hn fun H2 T2 i v d kp _ e1 e2 => ?_)⟩
  obtain ⟨v', f1, i2⟩ := (hr H2 T2 kp).2.get e2
  rw [e1] at f1
  cases f1
  exact i2
theorem sw_listO {tl : TE} {a : DE} (ha : SemO' K tl a) : SemW K false (iList K tl) (asL a) := fun {B Z os ρ σ H R ds} f q k => by
  obtain ⟨d, q, ed⟩ := asL_some q
  refine ha f q fun v H1 s1 i1 => ?_
  obtain ⟨p, vs, rfl, hl, hn, hr⟩ := i1.seq ed
  refine ⟨p, rfl, ⟨vs, (hr H1 No (Kp.same (f.keep.trans s1))).1⟩, k _ _ s1 (walk_list (vs := vs) (by omega) (fun H2 T2 kp sb => (hr H2 No (Kp.same sb)).1) hn fun H2 T2 i v d kp sb e1 e2 => ?_)⟩
  obtain ⟨v', f1, i2⟩ := (hr B No Kp.refl).2.get e2
  rw [e1] at f1
  cases f1
  exact i2
abbrev DG := D → Rho → Option Rho
abbrev DGs := List D → Rho → Option Rho
def SemG (K : PySem.W.Frag) (m : Bool) (g : TG) (e : DG) : Prop := ∀ {B : Hp} {Z : Addr → Prop} {os : Own} {ρ : Rho} {σ : L2.St} {H : Hp} {Q : L2.St → Hp → Prop} {v : V} {d : D} {ρ' : Rho}, Fr K B Z os ρ σ H → ER K m B H (tot Z os) v d → e d ρ = some ρ' →
  (∀ os' σ', Fr K B Z os' ρ' σ' H → Kp (tot Z os) H (tot Z os') H → Q σ' H) → g v σ H Q
def ERL (K : PySem.W.Frag) (m : Bool) (Bx H : Hp) (T : Addr → Prop) (vs : List V) (ds : List D) : Prop := match m with
  | true => IsL K H T vs ds
  | false => IsL K Bx No vs ds
def SemGs (K : PySem.W.Frag) (m : Bool) (g : TGs) (e : DGs) : Prop := ∀ {B : Hp} {Z : Addr → Prop} {os : Own} {ρ : Rho} {σ : L2.St} {H : Hp} {Q : L2.St → Hp → Prop} {vs : List V} {ds : List D} {ρ' : Rho}, Fr K B Z os ρ σ H → ERL K m B H (tot Z os) vs ds → e ds ρ = some ρ' →
  (∀ os' σ', Fr K B Z os' ρ' σ' H → Kp (tot Z os) H (tot Z os') H → Q σ' H) → g vs σ H Q
def slm (m : Bool) (d : D) : Sl := match m with
  | true => .pu d
  | false => .bo d
def gN (m : Bool) (i : Nat) : DG := fun d ρ => some (ρ.set i (slm m d))
theorem Fr.putm {B H : Hp} {Z : Addr → Prop} {os : Own} {ρ : Rho} {σ : L2.St} (f : Fr K B Z os ρ σ H) {m : Bool} (i : Nat) {v : V} {d : D} (h : ER K m B H (tot Z os) v d) :
    ∃ os', Fr K B Z os' (ρ.set i (slm m d)) (σ.set i (some v)) H ∧ Kp (tot Z os) H (tot Z os') H := by
  by_cases hi : i < ρ.length
  · cases m with
    | true => exact ⟨_, f.put hi h⟩
    | false => exact ⟨_, f.step (s := .bo d) (v := some v) hi (fun a u e _ => e) (fun a ha => let ⟨xs, e⟩ := (f.sl i).dom ha; ⟨_, e⟩) List.nodup_nil (fun a h => by cases h) ⟨rfl, v, rfl, h⟩⟩
  · have e1 : ρ.set i (slm m d) = ρ := List.set_eq_of_length_le (by omega)
    have e2 : σ.set i (some v) = σ := List.set_eq_of_length_le (by rw [f.len]; omega)
    rw [e1, e2]
    exact ⟨os, f, Kp.refl⟩
theorem sg_name {m : Bool} (i : Nat) : SemG K m (gName i) (gN m i) := fun {B Z os ρ σ H Q v d ρ'} f h q k => by
  cases q
  obtain ⟨os', f', kp⟩ := f.putm i h
  exact k os' _ f' kp
def gsNil : DGs := fun ds ρ => match ds with
  | [] => some ρ
  | _ => none
def gsCons (e : DG) (r : DGs) : DGs := fun ds ρ => match ds with
  | d :: t => (match e d ρ with
    | some ρ' => r t ρ'
    | none => none)
  | [] => none
theorem sgs_nil {m : Bool} : SemGs K m gNil gsNil := fun {B Z os ρ σ H Q vs ds ρ'} f h q k => by
  cases ds with
  | nil =>
    cases q
    have e : vs = [] := by cases m <;> cases h <;> rfl
    exact ⟨e, k os σ f Kp.refl⟩
  | cons d t => cases q
theorem sgs_cons {m : Bool} {g : TG} {u : TGs} {e : DG} {r : DGs} (hg : SemG K m g e) (hr : SemGs K m u r) : SemGs K m (gCons g u) (gsCons e r) := fun {B Z os ρ σ H Q vs ds ρ'} f h q k => by
  cases ds with
  | nil => cases q
  | cons d t =>
    have q : (match e d ρ with | some ρ' => r t ρ' | none => none) = some ρ' := q
    split at q
    · rename_i ρ1 e1
      obtain ⟨v, vt, rfl, h1, h2⟩ : ∃ v vt, vs = v :: vt ∧ ER K m B H (tot Z os) v d ∧ ERL K m B H (tot Z os) vt t := by
        cases m with
        | true => cases h with | cons a b => exact ⟨_, _, rfl, a, b⟩
        | false => cases h with | cons a b => exact ⟨_, _, rfl, a, b⟩
      refine ⟨v, vt, rfl, hg f h1 e1 fun os1 σ1 f1 k1 => hr f1 ?_ q fun os2 σ2 f2 k2 => k os2 σ2 f2 (k1.trans k2)⟩
      cases m with
      | true => exact IsL.kp k1 h2
      | false => exact h2
    · cases q
def gUn (n : Nat) (r : DGs) : DG := fun d ρ => match d with
  | .tup ds => if ds.length = n then r ds ρ else none
  | .lst ds => if ds.length = n then r ds ρ else none
  | _ => none
theorem sg_un {m : Bool} {n : Nat} {u : TGs} {r : DGs} (hr : SemGs K m u r) : SemG K m (gSeq K n u) (gUn n r) := fun {B Z os ρ σ H Q v d ρ'} f h q k => by
  cases d with
  | tup ds =>
    have q : (if ds.length = n then r ds ρ else none) = some ρ' := q
    by_cases c : ds.length = n
    · rw [if_pos c] at q
      cases m with
      | true =>
        obtain ⟨p, vs, rfl, hz, hr', hl, g⟩ := Is.isTup h
        exact .inl ⟨p, vs, rfl, .inl (.inl hr'), by rw [g.length]; exact c, hr f g q k⟩
      | false =>
        obtain ⟨p, vs, rfl, hz, hr', hl, g⟩ := Is.isTup h
        exact .inl ⟨p, vs, rfl, .inl (.inl (f.keep _ _ hr')), by rw [g.length]; exact c, hr f g q k⟩
    · rw [if_neg c] at q; cases q
  | lst ds =>
    have q : (if ds.length = n then r ds ρ else none) = some ρ' := q
    by_cases c : ds.length = n
    · rw [if_pos c] at q
      cases m with
      | true =>
        obtain ⟨p, vs, rfl, hz, hr', hl, g⟩ := Is.isLst h
        exact .inr ⟨p, vs, rfl, .inl hr', by rw [g.length]; exact c, hr f g q k⟩
      | false =>
        obtain ⟨p, vs, rfl, hz, hr', hl, g⟩ := Is.isLst h
        exact .inr ⟨p, vs, rfl, .inl (Rd.same hr' f.keep), by rw [g.length]; exact c, hr f g q k⟩
    · rw [if_neg c] at q; cases q
  | _ => cases q
theorem Fr.tin {B H : Hp} {Z : Addr → Prop} {os : Own} {ρ : Rho} {σ : L2.St} (f : Fr K B Z os ρ σ H) : ∀ a, tot Z os a → ∃ o, H a = some o := by
  rintro a (z | ⟨i, z⟩)
  · exact f.zin a z
  · obtain ⟨xs, e⟩ := (f.sl i).dom z
    exact ⟨_, e⟩
theorem Fr.zt {B H : Hp} {Z : Addr → Prop} {os : Own} {ρ : Rho} {σ : L2.St} (f : Fr K B Z os ρ σ H) : ZT (tot Z os) H := ⟨f.tin, f.tabH⟩
def view : Sl → Sl
  | .pu d => .pu d
  | .bo d => .bo d
  | .ol ds => .bo (.lst ds)
  | .om rows => .bo (.lst (rows.map D.lst))
  | .un => .un
def r0 (k : Nat) (cs : List Nat) (ρ : Rho) : Rho := List.replicate k .un ++ cs.map fun i => view (ρ.getD i .un)
def s0 (k : Nat) (cs : List Nat) (σ : L2.St) : L2.St := List.replicate k none ++ cs.map fun i => (σ[i]?).join
theorem blockFr {B H1 H : Hp} {Z : Addr → Prop} {os : Own} {ρ : Rho} {σ : L2.St} {Dl : Addr} {o : HO} (f : Fr K B Z os ρ σ H1) (hD : H1 Dl = none) (s : Same H1 H) (hd : H Dl = some o) (k : Nat) (cs : List Nat) :
    Fr K H1 (fun a => a = Dl ∨ tot Z os a) (fun _ => []) (r0 k cs ρ) (s0 k cs σ) H where
  keep := s
  zin := fun a z => by
    rcases z with rfl | z
    · exact ⟨o, hd⟩
    · obtain ⟨u, e⟩ := f.tin a z
      exact ⟨u, s _ _ e⟩
  len := by unfold r0 s0; simp
  nd := fun _ => List.nodup_nil
  dj := fun _ _ _ h => by cases h
  tab := f.tabH
  new := fun _ _ h => by cases h
  sl := fun j => by
    have kp : Kp (tot Z os) H1 (tot (fun a => a = Dl ∨ tot Z os a) fun _ => []) H := fun a u e z => by
      refine ⟨s _ _ e, ?_⟩
      rintro ((rfl | q) | ⟨_, q⟩)
      · rw [hD] at e; cases e
      · exact z q
      · cases q
    unfold r0 s0
    rw [List.getD_eq_getElem?_getD]
    by_cases hj : j < k
    · rw [List.getElem?_append_left (by simpa using hj), List.getElem?_append_left (by simpa using hj), List.getElem?_replicate, if_pos hj]
      exact rfl
    · rw [List.getElem?_append_right (by simpa using hj), List.getElem?_append_right (by simpa using hj), List.length_replicate, List.length_replicate, List.getElem?_map, List.getElem?_map]
      cases e : cs[j - k]? with
      | none => exact rfl
      | some i =>
        have h := f.sl i
        show SlOk K _ _ _ _ (view (ρ.getD i .un)) ((σ[i]?).join)
        cases e2 : ρ.getD i .un with
        | un => exact rfl
        | pu d =>
          rw [e2] at h
          obtain ⟨_, u, hu, i1⟩ := h
          exact ⟨rfl, u, hu, i1.kp kp⟩
        | bo d =>
          rw [e2] at h
          obtain ⟨_, u, hu, i1⟩ := h
          exact ⟨rfl, u, hu, i1.same f.keep⟩
        | ol ds =>
          rw [e2] at h
          obtain ⟨a, vs, _, hu, hH, hl, i1⟩ := h
          exact ⟨rfl, _, hu, .lst (fun z => z) (.inl hH) hl i1.all⟩
        | om rows =>
          rw [e2] at h
          obtain ⟨a, ps, _, hu, hH, hl, i1⟩ := h
          exact ⟨rfl, _, hu, .lst (fun z => z) (.inl hH) (by rw [List.length_map]; exact hl) (rows_is i1)⟩
def compGo (g : DG) (t : Rho → Option Bool) (e : DE) (ρ0 : Rho) : List D → Option (List D)
  | [] => some []
  | d :: ds => match g d ρ0 with
    | none => none
    | some ρ1 => match t ρ1 with
      | none => none
      | some false => compGo g t e ρ0 ds
      | some true => match e ρ1 with
        | none => none
        | some y => match compGo g t e ρ0 ds with
          | none => none
          | some ys => some (y :: ys)
def dComp (k : Nat) (cs : List Nat) (it : Rho → Option (List D)) (g : DG) (t : Rho → Option Bool) (e : DE) : Rho → Option (List D) := fun ρ => match it ρ with
  | some ds => compGo g t e (r0 k cs ρ) ds
  | none => none
theorem sf_comp {m : Bool} {k : Nat} {cs : List Nat} {wi : TI} {g : TG} {tt : TT} {te : TE} {it : Rho → Option (List D)} {gd : DG} {td : Rho → Option Bool} {ed : DE} (hw : SemWC K m wi it) (hg : SemG K m g gd) (ht : SemT K tt td) (he : SemI K te ed) :
    SemF K (tComp wi g tt te (s0 k cs)) (dComp k cs it gd td ed) := fun {B Z os ρ σ H Q ds} f q kk => by
  unfold dComp at q
  split at q
  · rename_i xs e0
    refine hw f e0 fun J H1 s1 W Dl hD => ?_
    have f1 := f.grow s1
    have sD : ∀ {H2 : Hp} {ys : List V}, Same H1 H2 → Same H1 (upd H2 Dl (.lst ys)) := fun {H2 ys} s a o e => by
      rw [upd_ne (ne_of_none e hD)]; exact s _ _ e
    refine ⟨fun i m ys H2 => m = xs.length - i ∧ i ≤ xs.length ∧ Same H1 H2 ∧ H2 Dl = some (.lst ys) ∧ ys.length ≤ i ∧ ∃ done rest, IsL K H2 (fun a => a = Dl ∨ tot Z os a) ys done ∧ compGo gd td ed (r0 k cs ρ) (xs.drop i) = some rest ∧ done ++ rest = ds,
      ⟨_, rfl, Nat.zero_le _, sD (Same.refl _), upd_same, Nat.le_refl _, [], ds, .nil, q, rfl⟩, ?_⟩
    rintro i mm ys H2 ⟨rfl, hi, s2, eD, hly, done, rest, il, q2, ed2⟩
    have kp12 : Kp (tot Z os) H1 (fun a => a = Dl ∨ tot Z os a) H2 := fun a u e z => ⟨s2 _ _ e, fun w => w.elim (ne_of_none e hD) z⟩
    by_cases hlt : i < xs.length
    · have ex : xs[i]? = some xs[i] := List.getElem?_eq_getElem hlt
      have ef := blockFr f1 hD s2 eD k cs
      obtain ⟨go, yl⟩ := W.go i xs[i] H2 _ kp12 s2 (fun a z => ef.zin a z) ex
      refine .inr ⟨go, fun x H3 hy => ?_⟩
      obtain ⟨s3, er⟩ := yl x H3 hy
      have eD3 := s3 _ _ eD
      have s13 := s2.trans s3
      have ef3 := blockFr f1 hD s13 eD3 k cs
      rw [List.drop_eq_getElem_cons hlt] at q2
      unfold compGo at q2
      have er' : ER K m H1 H3 (tot (fun a => a = Dl ∨ tot Z os a) fun _ => []) x xs[i] := by
        cases m with
        | false => exact er
        | true => exact Is.kp (Kp.less fun a z => z.elim id fun ⟨_, w⟩ => by cases w) er
      split at q2
      · cases q2
      · rename_i ρ1 e1
        refine hg ef3 er' e1 fun os1 σ1 fr1 k1 => ?_
        split at q2
        · cases q2
        · rename_i e2
          refine ht fr1 e2 fun H4 s4 => iteF ⟨_, by omega, rfl, hlt, s13.trans s4, s4 _ _ eD3, by omega, done, rest, (il.same s3).same s4, q2, ed2⟩
        · rename_i e2
          refine ht fr1 e2 fun H4 s4 => iteT ?_
          split at q2
          · cases q2
          · rename_i y e3
            split at q2
            · cases q2
            · rename_i rs e4
              cases q2
              refine he (fr1.grow s4) e3 fun v H5 s5 i5 => ?_
              have s35 := s4.trans s5
              have eD5 := s35 _ _ eD3
              have hl := W.len
              have kp5 : ∀ (zs : List V), Kp (fun a => a = Dl ∨ tot Z os a) H5 (fun a => a = Dl ∨ tot Z os a) (upd H5 Dl (.lst zs)) := fun zs a u e z => ⟨by rw [upd_ne (fun w => z (.inl w))]; exact e, z⟩
              have i5' : Is K H5 (fun a => a = Dl ∨ tot Z os a) v y := i5.kp (Kp.less fun a z => .inl z)
              refine ⟨eD5, by omega, _, by omega, rfl, hlt, sD (s13.trans s35), upd_same, by rw [List.length_append, List.length_singleton]; omega, done ++ [y], rs, ?_, e4, by rw [List.append_assoc]; exact ed2⟩
              exact ((il.same s3).same s35 |>.kp (kp5 _)).append (.one (i5'.kp (kp5 _)))
    · have e : i = xs.length := by omega
      subst e
      rw [List.drop_length] at q2
      cases q2
      rw [List.append_nil] at ed2
      subst ed2
      have hl := W.len
      exact .inl ⟨W.stop _ H2 _ kp12 s2 rfl, eD, kk Dl ys H2 (s1.trans s2) (Same.free s1 hD) eD (by omega) il⟩
  · cases q
inductive Fm where
  | v | l | m | x (E : XK) (C : Addr)
def RtOk (fr : Fm) (K : PySem.W.Frag) (B H : Hp) (Z : Addr → Prop) (v : V) (d : D) : Prop := match fr with
  | .v => Is K H Z v d
  | .l => ∃ p vs ds, v = .ref p ∧ d = .lst ds ∧ B p = none ∧ H p = some (.lst vs) ∧ vs.length ≤ sizeLine ∧ IsL K H (fun a => a = p ∨ Z a) vs ds
  | .m => ∃ p ps rows, v = .ref p ∧ d = .lst (rows.map D.lst) ∧ B p = none ∧ (∀ a ∈ ps, B a = none) ∧ (p :: ps).Nodup ∧ H p = some (.lst (ps.map V.ref)) ∧ ps.length ≤ sizeLine ∧ Paired (fun q ds => ∃ vs, H q = some (.lst vs) ∧ vs.length ≤ sizeLine ∧ IsL K H (fun a => (a = p ∨ a ∈ ps) ∨ Z a) vs ds) ps rows
  | .x _ _ => Is K H Z v d
theorem rows_isZ {H : Hp} {Z T : Addr → Prop} (hT : ∀ a, Z a → T a) : ∀ {ps : List Addr} {rows : List (List D)}, (∀ p ∈ ps, ¬ Z p) → Paired (fun p ds => ∃ vs, H p = some (.lst vs) ∧ vs.length ≤ sizeLine ∧ IsL K H T vs ds) ps rows → IsL K H Z (ps.map V.ref) (rows.map D.lst)
  | _, _, _, .nil => .nil
  | _, _, hz, .cons ⟨vs, h, hl, r⟩ t => .cons (.lst (hz _ List.mem_cons_self) (.inl h) hl (r.kp (Kp.less hT))) (rows_isZ hT (fun p hp => hz p (List.mem_cons_of_mem _ hp)) t)
theorem RtOk.is {fr : Fm} {B H : Hp} {Z : Addr → Prop} {v : V} {d : D} (hz : ∀ a, Z a → ∃ o, B a = some o) (h : RtOk fr K B H Z v d) : Is K H Z v d := by
  have nz : ∀ {p : Addr}, B p = none → ¬ Z p := fun {p} e z => by obtain ⟨o, q⟩ := hz p z; rw [e] at q; cases q
  cases fr with
  | v => exact h
  | x E C => exact h
  | l =>
    obtain ⟨p, vs, ds, rfl, rfl, hb, hh, hl, r⟩ := h
    exact .lst (nz hb) (.inl hh) hl (r.kp (Kp.less fun a z => .inr z))
  | m =>
    obtain ⟨p, ps, rows, rfl, rfl, hb, hbs, _, hh, hl, r⟩ := h
    exact .lst (nz hb) (.inl hh) (by rw [List.length_map]; exact hl) (rows_isZ (fun a z => .inr z) (fun q hq => nz (hbs q hq)) r)
def spD (fr : Fm) (K : PySem.W.Frag) (ms : List Bool) (F : List D → Option D) : Sp := fun vs H Q _ => ∃ (Z : Addr → Prop) (ds : List D) (d : D), ZT Z H ∧ Args K H Z ms vs ds ∧ F ds = some d ∧ ∀ v H', Same H H' → RtOk fr K H H' Z v d → Q v H'
def dCall (F : List D → Option D) (es : Rho → Option (List D)) : DE := fun ρ => match es ρ with
  | some ds => F ds
  | none => none
theorem si_call {fr : Fm} {ms : List Bool} {F : List D → Option D} {t : TA} {es : Rho → Option (List D)} {E : XK} (ha : SemA K ms t es) : SemI K (tCall (spD fr K ms F) [] E t) (dCall F es) := fun {B Z os ρ σ H Q d} f q k => by
  unfold dCall at q
  split at q
  · rename_i ds e
    refine ha f e fun vs H1 s1 a => ?_
    show spD fr K ms F (vs ++ []) H1 Q E
    rw [List.append_nil]
    exact ⟨tot Z os, ds, d, (f.grow s1).zt, a, q, fun v H2 s2 i => k v H2 (s1.trans s2) (i.is (f.grow s1).tin)⟩
  · cases q
end
end VL
set_option Elab.async false
set_option linter.all false
set_option maxRecDepth 100000
namespace L2
open PySem PySem.Spec PyProof.Rows
section
variable {X : Cx}
end
end L2
namespace VL
open PySem L2
open Classical
noncomputable section
variable [Tabs] {K : PySem.W.Frag}
inductive Res where
  | nx (ρ : Rho) | rt (d : D) | bk (ρ : Rho) | ct (ρ : Rho) | no
variable {fr : Fm}
abbrev DS := Rho → Res
def Post (fr : Fm) (K : PySem.W.Frag) (B : Hp) (Z : Addr → Prop) (os : Own) (H : Hp) (E : Ends) : Res → Prop
  | .nx ρ' => ∀ os' σ' H', Fr K B Z os' ρ' σ' H' → Kp (tot Z os) H (tot Z os') H' → E.nx σ' H'
  | .bk ρ' => ∀ os' σ' H', Fr K B Z os' ρ' σ' H' → Kp (tot Z os) H (tot Z os') H' → E.bk σ' H'
  | .ct ρ' => ∀ os' σ' H', Fr K B Z os' ρ' σ' H' → Kp (tot Z os) H (tot Z os') H' → E.ct σ' H'
  | .rt d => match fr with
    | .x E0 C => ∀ H', Same B H' → E0 (.ref C) none H'
    | fr => ∀ v H', Same B H' → RtOk fr K B H' Z v d → E.rt v H'
  | .no => False
def SemS (fr : Fm) (K : PySem.W.Frag) (t : TS) (s : DS) : Prop := ∀ {B : Hp} {Z : Addr → Prop} {os : Own} {ρ : Rho} {σ : L2.St} {H : Hp} {E : Ends}, Fr K B Z os ρ σ H → Post fr K B Z os H E (s ρ) → t E σ H
theorem Post.kp {B : Hp} {Z : Addr → Prop} {os os1 : Own} {H H1 : Hp} {E : Ends} {r : Res} (k : Kp (tot Z os) H (tot Z os1) H1) (p : Post fr K B Z os H E r) : Post fr K B Z os1 H1 E r := by
  cases r with
  | nx ρ' => exact fun os' σ' H' f k' => p os' σ' H' f (k.trans k')
  | bk ρ' => exact fun os' σ' H' f k' => p os' σ' H' f (k.trans k')
  | ct ρ' => exact fun os' σ' H' f k' => p os' σ' H' f (k.trans k')
  | rt d => exact p
  | no => exact p
@[irreducible] def sPass : DS := fun ρ => .nx ρ
theorem ss_pass : SemS fr K tNext sPass := fun f p => by unfold sPass at p; exact p _ _ _ f Kp.refl
@[irreducible] def sSeq (s u : DS) : DS := fun ρ => match s ρ with
  | .nx ρ' => u ρ'
  | r => r
theorem ss_seq {t u : TS} {s w : DS} (h1 : SemS fr K t s) (h2 : SemS fr K u w) : SemS fr K (tSeq t u) (sSeq s w) := fun {B Z os ρ σ H E} f p => by
  refine h1 f ?_
  unfold sSeq at p
  cases e : s ρ with
  | nx ρ' => rw [e] at p; exact fun os' σ' H' f' k => h2 f' (p.kp k)
  | bk ρ' => rw [e] at p; exact p
  | ct ρ' => rw [e] at p; exact p
  | rt d => rw [e] at p; exact p
  | no => rw [e] at p; exact p
@[irreducible] def sRet (a : DE) : DS := fun ρ => match a ρ with
  | some d => .rt d
  | none => .no
theorem ss_ret {ta : TE} {a : DE} (h : SemI K ta a) : SemS .v K (tRet ta) (sRet a) := fun {B Z os ρ σ H E} f p => by
  unfold sRet at p
  cases e : a ρ with
  | none => rw [e] at p; exact p.elim
  | some d => rw [e] at p; exact h f e fun v H1 s1 i1 => p v H1 (f.keep.trans s1) (i1.kp (Kp.less fun a z => .inl z))
@[irreducible] def sIf (c : Rho → Option Bool) (s u : DS) : DS := fun ρ => match c ρ with
  | some true => s ρ
  | some false => u ρ
  | none => .no
theorem ss_if {tc : TT} {t u : TS} {c : Rho → Option Bool} {s w : DS} (hc : SemT K tc c) (h1 : SemS fr K t s) (h2 : SemS fr K u w) : SemS fr K (tIfS tc t u) (sIf c s w) := fun {B Z os ρ σ H E} f p => by
  unfold sIf at p
  split at p
  · rename_i e
    exact hc f e fun H1 s1 => iteT (h1 (f.grow s1) (p.kp (Kp.same s1)))
  · rename_i e
    exact hc f e fun H1 s1 => iteF (h2 (f.grow s1) (p.kp (Kp.same s1)))
  · exact p.elim
@[irreducible] def sSet (i : Nat) (a : DE) : DS := fun ρ => match a ρ with
  | some d => .nx (ρ.set i (.pu d))
  | none => .no
theorem ss_set {i : Nat} {ta : TE} {a : DE} (h : SemI K ta a) : SemS fr K (tAsg ta (gName i)) (sSet i a) := fun {B Z os ρ σ H E} f p => by
  unfold sSet at p
  cases e : a ρ with
  | none => rw [e] at p; exact p.elim
  | some d =>
    rw [e] at p
    refine h f e fun v H1 s1 i1 => ?_
    obtain ⟨os', f', k⟩ := (f.grow s1).putm (m := true) i i1
    exact p os' _ _ f' ((Kp.same s1).trans k)
theorem ss_setC {i : Nat} {ta : TE} {a : DE} (h : SemI K ta a) : SemS fr K (tSetC ta i) (sSet i a) := ss_set (i := i) h
@[irreducible] def sSetO (i : Nat) (a : Rho → Option (List D)) : DS := fun ρ => match a ρ with
  | some ds => if i < ρ.length then .nx (ρ.set i (.ol ds)) else .no
  | none => .no
theorem ss_setO {i : Nat} {ta : TE} {a : Rho → Option (List D)} (h : SemF K ta a) : SemS fr K (tAsg ta (gName i)) (sSetO i a) := fun {B Z os ρ σ H E} f p => by
  unfold sSetO at p
  split at p
  · rename_i ds e
    by_cases hi : i < ρ.length
    · rw [if_pos hi] at p
      refine h f e fun x vs H1 s1 hx hx1 hl i1 => ?_
      have st := f.step (H' := H1) (i := i) hi (o := [x]) (s := .ol ds) (v := some (.ref x)) (fun a u e _ => s1 _ _ e) (fun a ha => let ⟨xs, e⟩ := (f.sl i).dom ha; ⟨_, s1 _ _ e⟩) (by simp) (fun a ha => by rw [List.mem_singleton.mp ha]; exact .inr hx)
        ⟨x, vs, rfl, rfl, hx1, hl, i1.kp (Kp.less fun a z => ?_)⟩
      · exact p _ _ _ st.1 st.2
      · rcases z with z | ⟨j, z⟩
        · exact .inr (.inl z)
        · by_cases hj : j = i
          · subst hj; rw [putO_same] at z; exact .inl (List.mem_singleton.mp z)
          · rw [putO_ne hj] at z; exact .inr (.inr ⟨j, z⟩)
    · rw [if_neg hi] at p; exact p.elim
  · exact p.elim
def frz (i : Nat) (ρ : Rho) : Rho := match ρ.getD i .un with
  | .ol ds => ρ.set i (.pu (.lst ds))
  | .om rows => ρ.set i (.pu (.lst (rows.map D.lst)))
  | _ => ρ
theorem set_self {σ : L2.St} {i : Nat} {v : V} (h : (σ[i]?).join = some v) : σ.set i (some v) = σ := by
  have e := join_some h
  refine List.ext_getElem? fun j => ?_
  by_cases hj : i = j
  · subst hj
    rw [List.getElem?_set_self (List.getElem?_eq_some_iff.mp e).1, e]
  · rw [List.getElem?_set_ne hj]
theorem getD_lt {ρ : Rho} {i : Nat} {s : Sl} (h : ρ.getD i .un = s) (hs : s ≠ .un) : i < ρ.length := by
  by_cases hi : i < ρ.length
  · exact hi
  · rw [List.getD_eq_getElem?_getD, List.getElem?_eq_none (by omega)] at h
    exact absurd h.symm hs
theorem Fr.freeze {B H : Hp} {Z : Addr → Prop} {os : Own} {ρ : Rho} {σ : L2.St} (f : Fr K B Z os ρ σ H) (i : Nat) : ∃ os', Fr K B Z os' (frz i ρ) σ H ∧ Kp (tot Z os) H (tot Z os') H := by
  unfold frz
  have less : ∀ a, tot Z (putO os i []) a → tot Z os a := by
    rintro a (z | ⟨j, z⟩)
    · exact .inl z
    · by_cases hj : j = i
      · subst hj; rw [putO_same] at z; cases z
      · rw [putO_ne hj] at z; exact .inr ⟨j, z⟩
  cases e : ρ.getD i .un with
  | ol ds =>
    have s := f.sl i
    rw [e] at s
    obtain ⟨a, vs, eo, hu, hH, hl, i1⟩ := s
    have hi := getD_lt e (by intro z; cases z)
    have st := f.step (H' := H) (i := i) hi (o := []) (s := .pu (.lst ds)) (v := some (.ref a)) (fun a u e _ => e) (fun a ha => let ⟨xs, e⟩ := (f.sl i).dom ha; ⟨_, e⟩) List.nodup_nil (fun a h => by cases h)
      ⟨rfl, _, rfl, .lst (fun z => ?_) (.inl hH) hl (i1.kp (Kp.less less))⟩
    · rw [set_self hu] at st
      exact ⟨_, st⟩
    · rcases z with z | ⟨j, z⟩
      · exact (f.new i a (by rw [eo]; exact List.mem_singleton.mpr rfl)).2 z
      · by_cases hj : j = i
        · subst hj; rw [putO_same] at z; cases z
        · rw [putO_ne hj] at z; exact hj (f.dj j i a z (by rw [eo]; exact List.mem_singleton.mpr rfl))
  | om rows =>
    have s := f.sl i
    rw [e] at s
    obtain ⟨a, ps, eo, hu, hH, hl, i1⟩ := s
    have hi := getD_lt e (by intro z; cases z)
    have out : ∀ b, b ∈ os i → ¬ tot Z (putO os i []) b := by
      rintro b hb (z | ⟨j, z⟩)
      · exact (f.new i b hb).2 z
      · by_cases hj : j = i
        · subst hj; rw [putO_same] at z; cases z
        · rw [putO_ne hj] at z; exact hj (f.dj j i b z hb)
    have rowsI : ∀ {ps : List Addr} {rows : List (List D)}, (∀ p ∈ ps, p ∈ os i) → Paired (fun p ds => ∃ vs, H p = some (.lst vs) ∧ vs.length ≤ sizeLine ∧ IsL K H (tot Z os) vs ds) ps rows → IsL K H (tot Z (putO os i [])) (ps.map V.ref) (rows.map D.lst) := by
      intro ps rows hp r
      induction r with
      | nil => exact .nil
      | cons h _ ih =>
        obtain ⟨vs, q, hv, j⟩ := h
        exact .cons (.lst (out _ (hp _ List.mem_cons_self)) (.inl q) hv (j.kp (Kp.less less))) (ih fun p h => hp p (List.mem_cons_of_mem _ h))
    have st := f.step (H' := H) (i := i) hi (o := []) (s := .pu (.lst (rows.map D.lst))) (v := some (.ref a)) (fun a u e _ => e) (fun a ha => let ⟨xs, e⟩ := (f.sl i).dom ha; ⟨_, e⟩) List.nodup_nil (fun a h => by cases h)
      ⟨rfl, _, rfl, .lst (out a (by rw [eo]; exact List.mem_cons_self)) (.inl hH) (by rw [List.length_map]; exact hl) (rowsI (fun p hp => by rw [eo]; exact List.mem_cons_of_mem _ hp) i1)⟩
    rw [set_self hu] at st
    exact ⟨_, st⟩
  | un => exact ⟨os, f, Kp.refl⟩
  | pu d => exact ⟨os, f, Kp.refl⟩
  | bo d => exact ⟨os, f, Kp.refl⟩
@[irreducible] def sFrz (i : Nat) (s : DS) : DS := fun ρ => s (frz i ρ)
theorem ss_frz {t : TS} {s : DS} (i : Nat) (h : SemS fr K t s) : SemS fr K t (sFrz i s) := fun {B Z os ρ σ H E} f p => by
  obtain ⟨os', f', k⟩ := f.freeze i
  unfold sFrz at p
  exact h f' (Post.kp k p)
theorem Fr.mutO {B H : Hp} {Z : Addr → Prop} {os : Own} {ρ : Rho} {σ : L2.St} (f : Fr K B Z os ρ σ H) {i : Nat} {a : Addr} {ds ds' : List D} {vs' : List V} (e : ρ.getD i .un = .ol ds) (hu : (σ[i]?).join = some (.ref a)) (hl : vs'.length ≤ sizeLine) (h : IsL K H (tot Z os) vs' ds') :
    ∃ os', Fr K B Z os' (ρ.set i (.ol ds')) σ (upd H a (.lst vs')) ∧ Kp (tot Z os) H (tot Z os') (upd H a (.lst vs')) := by
  have s := f.sl i
  rw [e] at s
  obtain ⟨b, vs, eo, hu', hH, _, _⟩ := s
  rw [hu] at hu'
  cases hu'
  have hi := getD_lt e (by intro z; cases z)
  have ha : a ∈ os i := by rw [eo]; exact List.mem_singleton.mpr rfl
  have st := f.step (H' := upd H a (.lst vs')) (i := i) hi (o := [a]) (s := .ol ds') (v := some (.ref a)) (fun b u e n => by rw [upd_ne (fun z => n (by rw [z]; exact ha))]; exact e) (fun b hb => ?_) (by simp) (fun b hb => by rw [List.mem_singleton.mp hb]; exact .inl ha)
    ⟨a, vs', rfl, rfl, upd_same, hl, h.kp fun b u e z => ⟨?_, fun q => z ?_⟩⟩
  · rw [set_self hu] at st
    exact ⟨_, st⟩
  · rw [eo] at hb; rw [List.mem_singleton.mp hb]; exact ⟨_, upd_same⟩
  · rw [upd_ne (fun w => z (.inr ⟨i, by rw [w]; exact ha⟩))]; exact e
  · rcases q with q | ⟨j, q⟩
    · exact .inl q
    · by_cases hj : j = i
      · subst hj; rw [putO_same] at q; exact .inr ⟨j, by rw [List.mem_singleton.mp q]; exact ha⟩
      · rw [putO_ne hj] at q; exact .inr ⟨j, q⟩
theorem ol_of {B H : Hp} {Z : Addr → Prop} {os : Own} {ρ : Rho} {σ : L2.St} (f : Fr K B Z os ρ σ H) {i : Nat} {ds : List D} (e : ρ.getD i .un = .ol ds) : ∃ a vs, (σ[i]?).join = some (.ref a) ∧ H a = some (.lst vs) ∧ vs.length ≤ sizeLine ∧ IsL K H (tot Z os) vs ds := by
  have s := f.sl i
  rw [e] at s
  obtain ⟨b, vs, eo, hu', hH, hl, r⟩ := s
  exact ⟨b, vs, hu', hH, hl, r⟩
@[irreducible] def sApp (i : Nat) (a : DE) : DS := fun ρ => match ρ.getD i .un with
  | .ol ds => (match a ρ with
    | some d => if ds.length < sizeLine then .nx (ρ.set i (.ol (ds ++ [d]))) else .no
    | none => .no)
  | _ => .no
theorem ss_app {i : Nat} {ta : TE} {a : DE} (h : SemI K ta a) : SemS fr K (tDrop (tBM K "list" rAppend (tVar i) (tCons ta tNil))) (sApp i a) := fun {B Z os ρ σ H E} f p => by
  unfold sApp at p
  split at p
  · rename_i ds e
    split at p
    · rename_i d e2
      by_cases hz : ds.length < sizeLine
      · rw [if_pos hz] at p
        obtain ⟨x, vs, hu, hH, hl, r⟩ := ol_of f e
        refine ⟨_, join_some hu, .inl ⟨rfl, _, SqL.of hH⟩, h f e2 fun v H1 s1 i1 => ?_⟩
        have f1 := f.grow s1
        have r1 := r.same s1
        have hlen : vs.length < sizeLine := by rw [r.length]; exact hz
        obtain ⟨os', f', k⟩ := f1.mutO (vs' := vs ++ [v]) (ds' := ds ++ [d]) e hu (by rw [List.length_append, List.length_singleton]; omega) (r1.append (.one i1))
        exact ⟨x, vs, v, rfl, rfl, s1 _ _ hH, hlen, p os' _ _ f' ((Kp.same s1).trans k)⟩
      · rw [if_neg hz] at p; exact p.elim
    · exact p.elim
  · exact p.elim
@[irreducible] def sIns (i : Nat) (a b : DE) : DS := fun ρ => match ρ.getD i .un with
  | .ol ds => (match a ρ with
    | some (.int n) => (match b ρ with
      | some d => if 0 ≤ n ∧ n ≤ ds.length ∧ ds.length < sizeLine then .nx (ρ.set i (.ol (ds.take n.toNat ++ d :: ds.drop n.toNat))) else .no
      | none => .no)
    | _ => .no)
  | _ => .no
theorem ss_ins {i : Nat} {ta tb : TE} {a b : DE} (ha : SemB K ta a) (hb : SemI K tb b) : SemS fr K (tDrop (tBM K "list" rInsert (tVar i) (tCons ta (tCons tb tNil)))) (sIns i a b) := fun {B Z os ρ σ H E} f p => by
  unfold sIns at p
  split at p
  · rename_i ds e
    split at p
    · rename_i n e2
      split at p
      · rename_i d e3
        by_cases hz : 0 ≤ n ∧ n ≤ ds.length ∧ ds.length < sizeLine
        · rw [if_pos hz] at p
          obtain ⟨x, vs, hu, hH, hl, r⟩ := ol_of f e
          refine ⟨_, join_some hu, .inl ⟨rfl, _, SqL.of hH⟩, ha f e2 fun v H1 s1 i1 => hb (f.grow s1) e3 fun w H2 s2 i2 => ?_⟩
          have s12 := s1.trans s2
          have f1 := f.grow s12
          have r1 := r.same s12
          have hlen := r.length
          obtain ⟨os', f', k⟩ := f1.mutO (vs' := vs.take n.toNat ++ w :: vs.drop n.toNat) (ds' := ds.take n.toNat ++ d :: ds.drop n.toNat) e hu (by rw [List.length_append, List.length_cons, List.length_take, List.length_drop]; omega) ((r1.take _).append (.cons i2 (r1.drop _)))
          exact ⟨x, vs, n, w, rfl, by rw [i1.isInt], s12 _ _ hH, hz.1, by omega, by omega, p os' _ _ f' ((Kp.same s12).trans k)⟩
        · rw [if_neg hz] at p; exact p.elim
      · exact p.elim
    · exact p.elim
  · exact p.elim
@[irreducible] def sPut (i : Nat) (b a : DE) : DS := fun ρ => match ρ.getD i .un with
  | .ol ds => (match a ρ with
    | some d => (match b ρ with
      | some (.int n) => (match ixN ds.length n with
        | some j => .nx (ρ.set i (.ol (ds.set j d)))
        | none => .no)
      | _ => .no)
    | none => .no)
  | _ => .no
theorem ss_put {i : Nat} {ta tb : TE} {a b : DE} (ha : SemI K ta a) (hb : SemB K tb b) : SemS fr K (tAsg ta (gSub (tVar i) tb rSetL)) (sPut i b a) := fun {B Z os ρ σ H E} f p => by
  unfold sPut at p
  split at p
  · rename_i ds e
    split at p
    · rename_i d e2
      split at p
      · rename_i n e3
        split at p
        · rename_i j e4
          obtain ⟨x, vs, hu, hH, hl, r⟩ := ol_of f e
          refine ha f e2 fun v H1 s1 i1 => ⟨_, join_some hu, hb (f.grow s1) e3 fun w H2 s2 i2 => ?_⟩
          have s12 := s1.trans s2
          have f1 := f.grow s12
          have r1 := r.same s12
          obtain ⟨os', f', k⟩ := f1.mutO (vs' := vs.set j v) (ds' := ds.set j d) e hu (by rw [List.length_set]; exact hl) (r1.set (i1.same s2) j)
          exact ⟨x, vs, n, j, rfl, i2.isInt, s12 _ _ hH, by rw [r.length]; exact e4, p os' _ _ f' ((Kp.same s12).trans k)⟩
        · exact p.elim
      · exact p.elim
    · exact p.elim
  · exact p.elim
def forD (g : DG) (b : DS) : List D → DS
  | [], ρ => .nx ρ
  | d :: ds, ρ => match g d ρ with
    | none => .no
    | some ρ1 => match b ρ1 with
      | .nx ρ2 => forD g b ds ρ2
      | .ct ρ2 => forD g b ds ρ2
      | .bk ρ2 => .nx ρ2
      | .rt d => .rt d
      | .no => .no
@[irreducible] def sFor (it : Rho → Option (List D)) (g : DG) (b : DS) : DS := fun ρ => match it ρ with
  | some ds => forD g b ds ρ
  | none => .no
theorem ss_for {m : Bool} {wi : TI} {t : TG} {tb : TS} {it : Rho → Option (List D)} {g : DG} {b : DS} (hw : SemW K m wi it) (hg : SemG K m t g) (hb : SemS fr K tb b) : SemS fr K (tFor wi t tb) (sFor it g b) := fun {B Z os ρ σ H E} f p => by
  unfold sFor at p
  split at p
  · rename_i ds e0
    refine hw f e0 fun J H1 s1 W => ?_
    refine ⟨fun i m σ' H' => ∃ os' ρ', m = ds.length - i ∧ i ≤ ds.length ∧ Fr K B Z os' ρ' σ' H' ∧ Kp (tot Z os) H1 (tot Z os') H' ∧ Post fr K B Z os H1 E (forD g b (ds.drop i) ρ'), ⟨_, os, ρ, rfl, Nat.zero_le _, f.grow s1, Kp.refl, Post.kp (Kp.same s1) p⟩, ?_⟩
    rintro i mm σ2 H2 ⟨os2, ρ2, rfl, hi, f2, k2, p2⟩
    by_cases hlt : i < ds.length
    · have ex : ds[i]? = some ds[i] := List.getElem?_eq_getElem hlt
      obtain ⟨go, yl⟩ := W.go i ds[i] H2 _ k2 f2.keep f2.tin ex
      rw [List.drop_eq_getElem_cons hlt] at p2
      refine .inr ⟨go, fun σ' H' => ∃ os' ρ', Fr K B Z os' ρ' σ' H' ∧ Kp (tot Z os) H1 (tot Z os') H' ∧ Post fr K B Z os H1 E (forD g b (ds.drop (i + 1)) ρ'), fun σ' H' ⟨os', ρ', h1, h2, h3⟩ => ⟨_, by omega, os', ρ', rfl, hlt, h1, h2, h3⟩, fun x H3 hy => ?_⟩
      obtain ⟨s3, er⟩ := yl x H3 hy
      unfold forD at p2
      split at p2
      · exact p2.elim
      · rename_i ρ1 e1
        have er' : ER K m B H3 (tot Z os2) x ds[i] := er
        refine hg (f2.grow s3) er' e1 fun os3 σ3 f3 k3 => hb f3 ?_
        have k13 : Kp (tot Z os) H1 (tot Z os3) H3 := (k2.trans (Kp.same s3)).trans k3
        split at p2
        · rename_i ρ4 e4
          rw [e4]
          exact fun os' σ' H' f' k' => ⟨os', _, f', k13.trans k', p2⟩
        · rename_i ρ4 e4
          rw [e4]
          exact fun os' σ' H' f' k' => ⟨os', _, f', k13.trans k', p2⟩
        · rename_i ρ4 e4
          rw [e4]
          exact fun os' σ' H' f' k' => p2 os' σ' H' f' (k13.trans k')
        · rename_i d e4
          rw [e4]
          exact p2
        · exact p2.elim
    · have e : i = ds.length := by omega
      subst e
      rw [List.drop_length] at p2
      exact .inl ⟨W.stop _ H2 _ k2 f2.keep rfl, p2 os2 σ2 H2 f2 k2⟩
  · exact p.elim
def whN (c : Rho → Option Bool) (b : DS) : Nat → DS
  | 0, ρ => match c ρ with
    | some false => .nx ρ
    | _ => .no
  | n + 1, ρ => match c ρ with
    | some false => .nx ρ
    | some true => (match b ρ with
      | .nx ρ' => whN c b n ρ'
      | .ct ρ' => whN c b n ρ'
      | .bk ρ' => .nx ρ'
      | .rt d => .rt d
      | .no => .no)
    | none => .no
@[irreducible] def sWhile (c : Rho → Option Bool) (b : DS) : DS := fun ρ => if h : ∃ n, whN c b n ρ ≠ .no then whN c b h.choose ρ else .no
theorem whN_mono {c : Rho → Option Bool} {b : DS} : ∀ {n : Nat} {ρ : Rho}, whN c b n ρ ≠ .no → whN c b (n + 1) ρ = whN c b n ρ
  | 0, ρ, h => by
    unfold whN at h ⊢
    split at h
    · rename_i e; rw [e]
    · exact absurd rfl h
  | n + 1, ρ, h => by
    have e1 : whN c b (n + 1 + 1) ρ = (match c ρ with | some false => .nx ρ | some true => (match b ρ with | .nx ρ' => whN c b (n + 1) ρ' | .ct ρ' => whN c b (n + 1) ρ' | .bk ρ' => .nx ρ' | .rt d => .rt d | .no => .no) | none => .no) := rfl
    have e2 : whN c b (n + 1) ρ = (match c ρ with | some false => .nx ρ | some true => (match b ρ with | .nx ρ' => whN c b n ρ' | .ct ρ' => whN c b n ρ' | .bk ρ' => .nx ρ' | .rt d => .rt d | .no => .no) | none => .no) := rfl
    rw [e1]
    rw [e2] at h ⊢
    cases e3 : c ρ with
    | none => rfl
    | some x =>
      rw [e3] at h
      cases x with
      | false => rfl
      | true =>
        cases e4 : b ρ with
        | nx ρ' => rw [e4] at h; exact whN_mono h
        | ct ρ' => rw [e4] at h; exact whN_mono h
        | _ => rfl
theorem whN_le {c : Rho → Option Bool} {b : DS} {n k : Nat} {ρ : Rho} (h : whN c b n ρ ≠ .no) : whN c b (n + k) ρ = whN c b n ρ := by
  induction k with
  | zero => rfl
  | succ k ih => rw [← Nat.add_assoc, whN_mono (by rw [ih]; exact h), ih]
theorem sWhile_of {c : Rho → Option Bool} {b : DS} {n : Nat} {ρ : Rho} {r : Res} (h : whN c b n ρ = r) (hr : r ≠ .no) : sWhile c b ρ = r := by
  have ex : ∃ n, whN c b n ρ ≠ .no := ⟨n, by rw [h]; exact hr⟩
  unfold sWhile
  rw [dif_pos ex]
  have q := ex.choose_spec
  generalize ex.choose = m at q
  have e1 := whN_le (k := n) q
  have e2 := whN_le (k := m) (show whN c b n ρ ≠ .no by rw [h]; exact hr)
  rw [Nat.add_comm] at e2
  rw [← e1, e2, h]
theorem ss_while {tc : TT} {tb : TS} {c : Rho → Option Bool} {b : DS} (hc : SemT K tc c) (hb : SemS fr K tb b) : SemS fr K (tWhile tc tb) (sWhile c b) := fun {B Z os ρ σ H E} f p => by
  unfold sWhile at p
  by_cases ex : ∃ n, whN c b n ρ ≠ .no
  · rw [dif_pos ex] at p
    generalize ex.choose = n0 at p
    refine ⟨fun m σ' H' => ∃ os' ρ', Fr K B Z os' ρ' σ' H' ∧ Kp (tot Z os) H (tot Z os') H' ∧ Post fr K B Z os H E (whN c b m ρ'), ⟨n0, os, ρ, f, Kp.refl, p⟩, ?_⟩
    rintro m σ2 H2 ⟨os2, ρ2, f2, k2, p2⟩
    cases m with
    | zero =>
      unfold whN at p2
      split at p2
      · rename_i e
        exact hc f2 e fun H3 s3 => iteF (p2 os2 σ2 H3 (f2.grow s3) (k2.trans (Kp.same s3)))
      · exact p2.elim
    | succ m =>
      have p2 : Post fr K B Z os H E (match c ρ2 with | some false => .nx ρ2 | some true => (match b ρ2 with | .nx ρ' => whN c b m ρ' | .ct ρ' => whN c b m ρ' | .bk ρ' => .nx ρ' | .rt d => .rt d | .no => .no) | none => .no) := p2
      cases e : c ρ2 with
      | none => rw [e] at p2; exact p2.elim
      | some x =>
        rw [e] at p2
        cases x with
        | false => exact hc f2 e fun H3 s3 => iteF (p2 os2 σ2 H3 (f2.grow s3) (k2.trans (Kp.same s3)))
        | true =>
          refine hc f2 e fun H3 s3 => iteT ⟨fun σ' H' => ∃ os' ρ', Fr K B Z os' ρ' σ' H' ∧ Kp (tot Z os) H (tot Z os') H' ∧ Post fr K B Z os H E (whN c b m ρ'), fun σ' H' h => ⟨m, Nat.lt_succ_self _, h⟩, hb (f2.grow s3) ?_⟩
          have k3 := k2.trans (Kp.same s3)
          cases e4 : b ρ2 with
          | nx ρ' => rw [e4] at p2; exact fun os' σ' H' f' k' => ⟨os', _, f', k3.trans k', p2⟩
          | ct ρ' => rw [e4] at p2; exact fun os' σ' H' f' k' => ⟨os', _, f', k3.trans k', p2⟩
          | bk ρ' => rw [e4] at p2; exact fun os' σ' H' f' k' => p2 os' σ' H' f' (k3.trans k')
          | rt d => rw [e4] at p2; exact p2
          | no => rw [e4] at p2; exact p2.elim
  · rw [dif_neg ex] at p; exact p.elim
def stD (n : Nat) (ms : List Bool) (ds : List D) : Rho := List.zipWith slm ms ds ++ List.replicate (n - ds.length) .un
@[irreducible] def runD (n : Nat) (ms : List Bool) (b : DS) (ds : List D) : Option D := match b (stD n ms ds) with
  | .rt d => some d
  | .nx _ => some .non
  | _ => none
@[irreducible] def runF (n : Nat) (ms : List Bool) (b : DS) (ds : List D) : Option D := match b (stD n ms ds) with
  | .rt d => some d
  | _ => none
theorem startFr {H : Hp} {Z : Addr → Prop} {N : List Str} {ms : List Bool} {vs : List V} {ds : List D} (hz : ZT Z H) (h : Args K H Z ms vs ds) : Fr K H Z (fun _ => []) (stD N.length ms ds) (L2.start N vs) H where
  keep := Same.refl _
  zin := hz.1
  tab := hz.2
  len := by
    unfold stD L2.start
    have := h.len
    simp only [List.length_append, List.length_map, List.length_replicate, List.length_zipWith]
    omega
  nd := fun _ => List.nodup_nil
  dj := fun _ _ _ h => by cases h
  new := fun _ _ h => by cases h
  sl := fun j => by
    have hl := h.len
    have key : ∀ {ms : List Bool} {vs : List V} {ds : List D} (j : Nat), Args K H Z ms vs ds → j < ms.length → SlOk K H H (tot Z fun _ => []) [] (((List.zipWith slm ms ds)[j]?).getD .un) ((vs.map some)[j]?.join) := by
      intro ms vs ds j h
      induction h generalizing j with
      | nil => intro hj; simp at hj
      | own i _ ih =>
        intro hj
        cases j with
        | zero => exact ⟨rfl, _, rfl, i.kp (Kp.less fun a z => z.elim id fun ⟨_, w⟩ => by cases w)⟩
        | succ j => exact ih j (by simpa using hj)
      | any i _ ih =>
        intro hj
        cases j with
        | zero => exact ⟨rfl, _, rfl, i⟩
        | succ j => exact ih j (by simpa using hj)
    unfold stD L2.start
    rw [List.getD_eq_getElem?_getD]
    by_cases hj : j < ms.length
    · rw [List.getElem?_append_left (by rw [List.length_zipWith]; omega), List.getElem?_append_left (by rw [List.length_map]; omega)]
      exact key j h hj
    · rw [List.getElem?_append_right (by rw [List.length_zipWith]; omega), List.getElem?_replicate]
      split <;> exact rfl
theorem Fun.okD {P : Program} {w : World} {mg : Str → Option Value} {base : Heap} {x qual : Str} {st : Stmt} {f : Addr} {fd : FuncData} {N ps : List Str} {k : Nat} (F : Fun K x qual st f fd) (S : FnScope N ps (defScope st)) (ms : List Bool) (hms : ms.length = ps.length) (b : DS)
    (hbody : ∀ (cdv : Value) (A : Around) (outer : List Env) (s : Shared) (H : Hp) (E : XK), Room k (A.deeper (PyProof.Rows.envOfC qual (defScope st) s.heap.objs.size f cdv)) →
      ∃ t, PSs (cxOf CX0 P w K mg base N qual (defScope st) f cdv A outer s H E).nox (defBody st) t ∧ SemS .v K t b) : FnOk P w K mg base CX0 (k + 1) f fd ps (spD .v K ms (runD N.length ms b)) := by
  refine F.ok S (fun vs H Q E h => ?_) (fun cdv A outer s H vs Q E hr h => ?_)
  · obtain ⟨Z, ds, d, hz, a, _⟩ := h
    rw [a.len.1, hms]
  · obtain ⟨Z, ds, d, hz, a, e, k⟩ := h
    obtain ⟨t, h1, h2⟩ := hbody cdv A outer s H E hr
    refine ⟨t, h1, h2 (startFr hz a) ?_⟩
    unfold runD at e
    split at e
    · rename_i d' e1
      cases e
      rw [e1]
      exact fun v H' s' i => k v H' s' i
    · rename_i ρ e1
      cases e
      rw [e1]
      exact fun os' σ' H' f' _ => k _ H' f'.keep .non
    · cases e
end
end VL
set_option Elab.async false
set_option linter.all false
set_option maxRecDepth 100000
namespace L2
open PySem PySem.Spec PyProof.Rows
open VL (s0)
section
variable {X : Cx}
inductive SubL (X : Cx) : List (Str × Addr) → Prop
  | nil : SubL X []
  | cons {z : Str} {c : Addr} {r : List (Str × Addr)} : X.env.cells.lookup z = some c → SubL X r → SubL X ((z, c) :: r)
theorem SubL.sub {cl : List (Str × Addr)} (h : SubL X cl) : ∀ x c, cl.lookup x = some c → X.env.cells.lookup x = some c := by
  induction h with
  | nil => intro x c e; cases e
  | @cons z c r h _ ih =>
    intro x c' e
    rw [List.lookup_cons] at e
    cases q : x == z with
    | true => rw [q] at e; cases e; rw [eq_of_beq q]; exact h
    | false => rw [q] at e; exact ih x c' e
inductive CapL (X : Cx) (scope : Scope) (cl : List (Str × Addr)) : List Nat → List Str → Prop
  | nil : CapL X scope cl [] []
  | cons {i : Nat} {z : Str} {c : Addr} {is : List Nat} {zs : List Str} : X.N[i]? = some z → (X.env.scope.names.lookup z = some .cell ∨ X.env.scope.names.lookup z = some .free) → cl.lookup z = some c →
      ((relabel scope X.env).names.lookup z = some .cell ∨ (relabel scope X.env).names.lookup z = some .free) → CapL X scope cl is zs → CapL X scope cl (i :: is) (z :: zs)
theorem CapL.get {scope : Scope} {cl : List (Str × Addr)} {is : List Nat} {zs : List Str} (h : CapL X scope cl is zs) : ∀ (j : Nat) (z : Str), zs[j]? = some z → ∃ i c, is[j]? = some i ∧ X.N[i]? = some z ∧ (X.env.scope.names.lookup z = some .cell ∨ X.env.scope.names.lookup z = some .free) ∧ cl.lookup z = some c ∧
      ((relabel scope X.env).names.lookup z = some .cell ∨ (relabel scope X.env).names.lookup z = some .free) := by
  induction h with
  | nil => intro j z e; simp at e
  | cons h1 h2 h3 h4 _ ih =>
    intro j z e
    cases j with
    | zero => cases e; exact ⟨_, _, rfl, h1, h2, h3, h4⟩
    | succ j => exact ih j z (by simpa using e)
theorem CapL.len {scope : Scope} {cl : List (Str × Addr)} {is : List Nat} {zs : List Str} (h : CapL X scope cl is zs) : is.length = zs.length := by
  induction h with
  | nil => rfl
  | cons _ _ _ _ _ ih => simp [ih]
theorem Frees.many {scope : Scope} {cl : List (Str × Addr)} {is : List Nat} {ts zs : List Str} {k : Nat} {σ : St} (hk : ts.length = k) (hs : SubL X cl) (hc : CapL X scope cl is zs)
    (ha : ((relabel scope X.env).names.all fun y => !(y.2 == .cell || y.2 == .free) || zs.contains y.1) = true) : Frees X (ts ++ zs) scope cl σ (s0 k is σ) where
  sub := hs.sub
  vals := fun j x v e1 e2 => by
    unfold s0 at e2
    by_cases hj : j < k
    · rw [List.getElem?_append_left (by simpa using hj), List.getElem?_replicate, if_pos hj] at e2; cases e2
    · rw [List.getElem?_append_right (by simpa using hj), List.length_replicate, List.getElem?_map] at e2
      rw [List.getElem?_append_right (by omega), hk] at e1
      obtain ⟨i, c, f1, f2, f3, f4, f5⟩ := hc.get _ _ e1
      rw [f1] at e2
      have e3 : (σ[i]?).join = some v := Option.some.inj e2
      refine ⟨i, c, f2, VL.join_some e3, ?_, ?_, f4, f5⟩
      · rcases f3 with q | q
        · exact .inr (.inl q)
        · exact .inr (.inr q)
      · intro w
        have w : X.env.scope.names.lookup x = some .local := w
        rcases f3 with q | q <;> rw [q] at w <;> cases w
  has := fun x h => by
    have key : ∀ kd, (relabel scope X.env).names.lookup x = some kd → (kd == NameKind.cell || kd == NameKind.free) = true → x ∈ zs := fun kd e q => by
      have m := List.all_eq_true.mp ha _ (PySem.mem_of_lookup e)
      rw [q] at m
      have : zs.contains x = true := by simpa using m
      exact List.contains_iff_mem.mp this
    have mem : x ∈ zs := by
      rcases h with h | h
      · exact key _ h rfl
      · exact key _ h rfl
    obtain ⟨j, hj⟩ := List.getElem?_of_mem mem
    obtain ⟨i, c, _, _, _, f4, _⟩ := hc.get j x hj
    exact ⟨c, f4⟩
  len := by unfold s0; rw [List.length_append, List.length_append, List.length_replicate, List.length_map, hk, hc.len]
def Low (k : Nat) (g : TG) : Prop := ∀ x σ H (Q : St → Hp → Prop), g x σ H Q → ∃ σ2 H2, Q σ2 H2 ∧ σ2.length = σ.length ∧ (∀ j, k ≤ j → σ2[j]? = σ[j]?) ∧ ∀ Q' : St → Hp → Prop, Q' σ2 H2 → g x σ H Q'
def Lows (k : Nat) (g : TGs) : Prop := ∀ x σ H (Q : St → Hp → Prop), g x σ H Q → ∃ σ2 H2, Q σ2 H2 ∧ σ2.length = σ.length ∧ (∀ j, k ≤ j → σ2[j]? = σ[j]?) ∧ ∀ Q' : St → Hp → Prop, Q' σ2 H2 → g x σ H Q'
theorem low_name {k i : Nat} (h : i < k) : Low k (gName i) := fun x σ H Q q => ⟨_, _, q, List.length_set, fun j hj => by rw [List.getElem?_set_ne (by omega)], fun _ z => z⟩
theorem lows_nil {k : Nat} : Lows k gNil := fun x σ H Q q => ⟨_, _, q.2, rfl, fun _ _ => rfl, fun _ z => ⟨q.1, z⟩⟩
theorem lows_cons {t : TG} {u : TGs} {k : Nat} (h1 : Low k t) (h2 : Lows k u) : Lows k (gCons t u) := fun x σ H Q q => by
  obtain ⟨v, r, e, q⟩ := q
  obtain ⟨σ1, H1, q1, l1, k1, g1⟩ := h1 _ _ _ _ q
  obtain ⟨σ2, H2, q2, l2, k2, g2⟩ := h2 _ _ _ _ q1
  exact ⟨σ2, H2, q2, l2.trans l1, fun j hj => (k2 j hj).trans (k1 j hj), fun Q' z => ⟨v, r, e, g1 _ (g2 Q' z)⟩⟩
theorem low_seq {K : PySem.W.Frag} {u : TGs} {k n : Nat} (h : Lows k u) : Low k (gSeq K n u) := fun x σ H Q q => by
  rcases q with ⟨a, xs, e, hs, hl, q⟩ | ⟨a, xs, e, hs, hl, q⟩
  · obtain ⟨σ1, H1, q1, l1, k1, g1⟩ := h _ _ _ _ q
    exact ⟨σ1, H1, q1, l1, k1, fun Q' z => .inl ⟨a, xs, e, hs, hl, g1 Q' z⟩⟩
  · obtain ⟨σ1, H1, q1, l1, k1, g1⟩ := h _ _ _ _ q
    exact ⟨σ1, H1, q1, l1, k1, fun Q' z => .inr ⟨a, xs, e, hs, hl, g1 Q' z⟩⟩
theorem Low.keep {k : Nat} {g : TG} {cs : List Nat} (h : Low k g) (σ : St) : Keepg g (s0 k cs σ) := fun x H Q q => by
  obtain ⟨σ1, H1, q1, l1, k1, g1⟩ := h _ _ _ _ q
  refine g1 _ ⟨q1, l1, fun j v e => ?_⟩
  by_cases hj : j < k
  · unfold s0 at e
    rw [List.getElem?_append_left (by simpa using hj), List.getElem?_replicate, if_pos hj] at e; cases e
  · rw [k1 j (by omega)]; exact e
theorem pgb {N' : List Str} {scope : Scope} {cl : List (Str × Addr)} {i : Nat} {y : Str} {py : Pos} (nd : N'.Nodup) (hi : N'[i]? = some y) (hx : scope.names.lookup y = some .local) {C : Addr} {s3 : Shared} {H3 : Hp} {fp : List Addr} {pins : List (Addr × Obj)} :
    PG (compCx X N' scope cl C s3 H3 fp pins) (.Name y py) (gName i) := pg_name nd hi (.inl (lookup_relabel_local hx)) (.inr (lookup_relabel_local hx))
variable {tg elt iter c : Expr} {scope : Scope} {cl : List (Str × Addr)} {ts zs : List Str} {is : List Nat} {k : Nat} {g : TG} {tt : TT} {te : TE} {wi : TI} {pos : Pos}
theorem pe_cN0 (hc : X.calm = true) (hi : PI X tg iter wi) (hk : ts.length = k) (hs : SubL X cl) (hcp : CapL X scope cl is zs) (ha : ((relabel scope X.env).names.all fun y => !(y.2 == .cell || y.2 == .free) || zs.contains y.1) = true) (hl : Low k g)
    (hg : ∀ C s3 H3 fp pins, PG (compCx X (ts ++ zs) scope cl C s3 H3 fp pins) tg g) (he : ∀ C s3 H3 fp pins, PE (compCx X (ts ++ zs) scope cl C s3 H3 fp pins) elt te)
    (hclos : closureFor scope X.env = pure cl) (hcell : ∀ y ∈ scope.names, y.2 ≠ .cell) (hkind : scope.kind = .function) (hnames : ∀ y ∈ scope.names, y.2 = .local → scope.names.lookup y.1 = some .local)
    (hf : ∀ x, foldedSetIterable iter X.env x = pure x := by intro _; rfl) : PE X (.ListComp elt [⟨tg, iter, [], 0⟩] scope pos) (tComp wi g tTrue te (s0 k is)) :=
  pe_compG hc hi (fun _ _ => Frees.many hk hs hcp ha) (fun σ => hl.keep σ) hg tests0 he hclos hcell hkind hnames hf
theorem ps_cN0 {i : Nat} {x : Str} {pos' spos : Pos} (hN : X.N.Nodup) (hi' : X.N[i]? = some x) (hxl : X.env.scope.names.lookup x = some .local) (hc : X.calm = true) (hi : PI X tg iter wi) (hk : ts.length = k) (hs : SubL X cl) (hcp : CapL X scope cl is zs) (ha : ((relabel scope X.env).names.all fun y => !(y.2 == .cell || y.2 == .free) || zs.contains y.1) = true) (hl : Low k g)
    (hg : ∀ C s3 H3 fp pins, PG (compCx X (ts ++ zs) scope cl C s3 H3 fp pins) tg g) (he : ∀ C s3 H3 fp pins, PE (compCx X (ts ++ zs) scope cl C s3 H3 fp pins) elt te)
    (hclos : closureFor scope X.env = pure cl) (hcell : ∀ y ∈ scope.names, y.2 ≠ .cell) (hkind : scope.kind = .function) (hnames : ∀ y ∈ scope.names, y.2 = .local → scope.names.lookup y.1 = some .local)
    (hf : ∀ x, foldedSetIterable iter X.env x = pure x := by intro _; rfl) (hsw : swapsWith (.ListComp elt [⟨tg, iter, [], 0⟩] scope pos) (some (.Name x pos')) spos.line X.env = pure true := by rfl) : PS X (.Assign [.Name x pos'] (.ListComp elt [⟨tg, iter, [], 0⟩] scope pos) spos) (tSetC (tComp wi g tTrue te (s0 k is)) i) :=
  ps_setCG hN hi' (.inl hxl) (.inr hxl) hc hi (fun _ _ => Frees.many hk hs hcp ha) (fun σ => hl.keep σ) hg tests0 he hclos hcell hkind hnames hf hsw
theorem ps_cN1 {i : Nat} {x : Str} {pos' spos : Pos} (hN : X.N.Nodup) (hi' : X.N[i]? = some x) (hxl : X.env.scope.names.lookup x = some .local) (hc : X.calm = true) (hi : PI X tg iter wi) (hk : ts.length = k) (hs : SubL X cl) (hcp : CapL X scope cl is zs) (ha : ((relabel scope X.env).names.all fun y => !(y.2 == .cell || y.2 == .free) || zs.contains y.1) = true) (hl : Low k g)
    (hg : ∀ C s3 H3 fp pins, PG (compCx X (ts ++ zs) scope cl C s3 H3 fp pins) tg g) (ht : ∀ C s3 H3 fp pins, PT (compCx X (ts ++ zs) scope cl C s3 H3 fp pins) c tt) (he : ∀ C s3 H3 fp pins, PE (compCx X (ts ++ zs) scope cl C s3 H3 fp pins) elt te)
    (hclos : closureFor scope X.env = pure cl) (hcell : ∀ y ∈ scope.names, y.2 ≠ .cell) (hkind : scope.kind = .function) (hnames : ∀ y ∈ scope.names, y.2 = .local → scope.names.lookup y.1 = some .local)
    (hf : ∀ x, foldedSetIterable iter X.env x = pure x := by intro _; rfl) (hsw : swapsWith (.ListComp elt [⟨tg, iter, [c], 0⟩] scope pos) (some (.Name x pos')) spos.line X.env = pure true := by rfl) : PS X (.Assign [.Name x pos'] (.ListComp elt [⟨tg, iter, [c], 0⟩] scope pos) spos) (tSetC (tComp wi g tt te (s0 k is)) i) :=
  ps_setCG hN hi' (.inl hxl) (.inr hxl) hc hi (fun _ _ => Frees.many hk hs hcp ha) (fun σ => hl.keep σ) hg (tests1 ht) he hclos hcell hkind hnames hf hsw
theorem pi_listK {K : PySem.W.Frag} {l : Expr} {tl : TE} (h : X.K = K) (hl : PE X l tl) : PI X tg l (iList K tl) := by subst h; exact pi_list hl
end
end L2
namespace VL
open PySem L2
def sp_law [Tabs] (K : PySem.W.Frag) : Sp := fun vs H Q _ => ∃ (a : Addr) (ns : List Int), vs = [.ref a] ∧ SqL K H a (ns.map V.int) ∧ ns.length ≤ 63 ∧ (∀ m ∈ ns, Builtin.Int.intBits m ≤ 1048576) ∧ TabIn H ∧ ∀ H', Q (.bl true) H'
theorem sp_law_of [Tabs] {K : PySem.W.Frag} {F : List D → Option D} (ht : ∀ ns : List Int, ns.length ≤ 63 → (∀ m ∈ ns, Builtin.Int.intBits m ≤ 1048576) → F [.scr ns] = some (.bl true)) {vs : List V} {H : Hp} {Q : VK} {E : XK} (h : sp_law K vs H Q E) : spD .v K [false] F vs H Q E := by
  obtain ⟨a, ns, rfl, hS, hl, hb, htab, k⟩ := h
  have hz : ns.length ≤ sizeLine := Nat.le_trans hl (by decide)
  refine ⟨No, [.scr ns], .bl true, ⟨fun a z => z.elim, htab⟩, .any ?_ .nil, ht ns hl hb, fun v H' s i => by cases i; exact k H'⟩
  rcases hS with hS | hS
  · exact .scr (fun z => z) hS hz
  · exact .scrK hS hz
end VL
set_option Elab.async false
set_option linter.all false
set_option maxRecDepth 100000
namespace L2
open PySem PySem.Spec PyProof.Rows
section
variable {X : Cx} {K : PySem.W.Frag}
end
end L2
namespace VL
open PySem L2
open Classical
noncomputable section
section
variable [Tabs] {K : PySem.W.Frag} {ta tb tc : TE} {a b c : DE}
end
end
end VL
set_option Elab.async false
set_option linter.all false
set_option maxRecDepth 100000
namespace VL
open PySem L2
open Classical
noncomputable section
instance (priority := low) noTabs : Tabs := ⟨[]⟩
structure Wk where
  nx : Rho → Prop
  rt : D → Prop
  bk : Rho → Prop := fun _ => False
  ct : Rho → Prop := fun _ => False
@[irreducible] def Wp (s : DS) (ρ : Rho) (W : Wk) : Prop := match s ρ with
  | .nx ρ' => W.nx ρ'
  | .rt d => W.rt d
  | .bk ρ' => W.bk ρ'
  | .ct ρ' => W.ct ρ'
  | .no => False
section
variable {s u b : DS} {ρ : Rho} {W : Wk} {i : Nat} {a e k : DE} {d : D} {c : Rho → Option Bool} {es : Rho → Option (List D)} {ds : List D} {g : DG}
theorem wp_seq (h : Wp s ρ { W with nx := fun ρ' => Wp u ρ' W }) : Wp (sSeq s u) ρ W := by
  unfold Wp sSeq at *
  cases e : s ρ <;> rw [e] at h <;> exact h
theorem wp_pass (h : W.nx ρ) : Wp sPass ρ W := by unfold Wp sPass; exact h
theorem wp_ret (h : a ρ = some d) (k : W.rt d) : Wp (sRet a) ρ W := by unfold Wp sRet; rw [h]; exact k
theorem wp_if {x : Bool} (h : c ρ = some x) (ht : x = true → Wp s ρ W) (hf : x = false → Wp u ρ W) : Wp (sIf c s u) ρ W := by
  unfold Wp sIf at *
  rw [h]
  cases x
  · exact hf rfl
  · exact ht rfl
theorem wp_ifp {p : Prop} {_ : Decidable p} (h : c ρ = some (decide p)) (ht : p → Wp s ρ W) (hf : ¬ p → Wp u ρ W) : Wp (sIf c s u) ρ W := by
  refine wp_if h (fun q => ht (of_decide_eq_true q)) fun q => hf (of_decide_eq_false q)
theorem wp_ifF (h : c ρ = some false) (ht : Wp u ρ W) : Wp (sIf c s u) ρ W := wp_if h (fun q => by cases q) fun _ => ht
theorem wp_set (h : a ρ = some d) (k : W.nx (ρ.set i (.pu d))) : Wp (sSet i a) ρ W := by unfold Wp sSet; rw [h]; exact k
theorem wp_setO (h : es ρ = some ds) (hi : i < ρ.length) (k : W.nx (ρ.set i (.ol ds))) : Wp (sSetO i es) ρ W := by unfold Wp sSetO; rw [h]; simp only [if_pos hi]; exact k
theorem wp_frz (h : Wp s (frz i ρ) W) : Wp (sFrz i s) ρ W := by unfold Wp sFrz at *; exact h
theorem wp_app (h0 : ρ.getD i .un = .ol ds) (h : a ρ = some d) (hl : ds.length < sizeLine) (k : W.nx (ρ.set i (.ol (ds ++ [d])))) : Wp (sApp i a) ρ W := by unfold Wp sApp; rw [h0]; simp only [h, if_pos hl]; exact k
theorem wp_ins {n : Int} (h0 : ρ.getD i .un = .ol ds) (h : a ρ = some (.int n)) (h1 : e ρ = some d) (hl : 0 ≤ n ∧ n ≤ ds.length ∧ ds.length < sizeLine) (k : W.nx (ρ.set i (.ol (ds.take n.toNat ++ d :: ds.drop n.toNat)))) : Wp (sIns i a e) ρ W := by
  unfold Wp sIns; rw [h0]; simp only [h, h1, if_pos hl]; exact k
theorem wp_put {n : Int} {j : Nat} (h0 : ρ.getD i .un = .ol ds) (h1 : a ρ = some d) (h : e ρ = some (.int n)) (hj : ixN ds.length n = some j) (k : W.nx (ρ.set i (.ol (ds.set j d)))) : Wp (sPut i e a) ρ W := by
  unfold Wp sPut; rw [h0]; simp only [h, h1, hj]; exact k
theorem wp_for {it : Rho → Option (List D)} (h : it ρ = some ds) (I : Nat → Rho → Prop) (h0 : I 0 ρ)
    (hs : ∀ (j : Nat) (d : D) (ρ : Rho), ds[j]? = some d → I j ρ → ∃ ρ1, g d ρ = some ρ1 ∧ Wp b ρ1 { W with nx := I (j + 1), ct := I (j + 1), bk := W.nx })
    (he : ∀ ρ, I ds.length ρ → W.nx ρ) : Wp (sFor it g b) ρ W := by
  have key : ∀ (n j : Nat) (ρ : Rho), n = ds.length - j → j ≤ ds.length → I j ρ → Wp (fun ρ => forD g b (ds.drop j) ρ) ρ W := by
    intro n
    induction n with
    | zero =>
      intro j ρ hn hj hI
      have e : j = ds.length := by omega
      subst e
      unfold Wp
      simp only [List.drop_length, forD]
      exact he ρ hI
    | succ n ih =>
      intro j ρ hn hj hI
      have hlt : j < ds.length := by omega
      obtain ⟨ρ1, e1, w1⟩ := hs j ds[j] ρ (List.getElem?_eq_getElem hlt) hI
      unfold Wp
      dsimp only
      rw [List.drop_eq_getElem_cons hlt]
      unfold forD
      rw [e1]
      unfold Wp at w1
      dsimp only
      cases e2 : b ρ1 with
      | nx ρ2 => rw [e2] at w1; have q := ih (j + 1) ρ2 (by omega) hlt w1; unfold Wp at q; exact q
      | ct ρ2 => rw [e2] at w1; have q := ih (j + 1) ρ2 (by omega) hlt w1; unfold Wp at q; exact q
      | bk ρ2 => rw [e2] at w1; exact w1
      | rt d => rw [e2] at w1; exact w1
      | no => rw [e2] at w1; exact w1
  have := key _ 0 ρ rfl (Nat.zero_le _) h0
  unfold Wp at this
  unfold Wp sFor
  rw [h]
  exact this
theorem wp_while (I : Nat → Rho → Prop) (n : Nat) (h0 : I n ρ) (hs : ∀ n ρ, I n ρ → ∃ x, c ρ = some x ∧ (x = true → Wp b ρ { W with nx := fun ρ' => ∃ m, m < n ∧ I m ρ', ct := fun ρ' => ∃ m, m < n ∧ I m ρ', bk := W.nx }) ∧ (x = false → W.nx ρ)) : Wp (sWhile c b) ρ W := by
  have key : ∀ n ρ, I n ρ → ∃ r, whN c b (n + 1) ρ = r ∧ r ≠ .no ∧ (match r with | .nx ρ' => W.nx ρ' | .rt d => W.rt d | .bk ρ' => W.bk ρ' | .ct ρ' => W.ct ρ' | .no => False) := by
    intro n
    induction n using Nat.strongRecOn with
    | _ n ih =>
      intro ρ hI
      obtain ⟨x, ec, ht, hf⟩ := hs n ρ hI
      have un : whN c b (n + 1) ρ = (match c ρ with | some false => Res.nx ρ | some true => (match b ρ with | .nx ρ' => whN c b n ρ' | .ct ρ' => whN c b n ρ' | .bk ρ' => .nx ρ' | .rt d => .rt d | .no => .no) | none => .no) := rfl
      rw [un, ec]
      cases x with
      | false => exact ⟨.nx ρ, rfl, (fun z => by cases z), hf rfl⟩
      | true =>
        have w := ht rfl
        unfold Wp at w
        have step : ∀ ρ', (∃ m, m < n ∧ I m ρ') → ∃ r, whN c b n ρ' = r ∧ r ≠ .no ∧ (match r with | .nx ρ' => W.nx ρ' | .rt d => W.rt d | .bk ρ' => W.bk ρ' | .ct ρ' => W.ct ρ' | .no => False) := by
          rintro ρ' ⟨m, hm, hI'⟩
          obtain ⟨r, e, hr, q⟩ := ih m hm ρ' hI'
          refine ⟨r, ?_, hr, q⟩
          obtain ⟨k, rfl⟩ : ∃ k, n = m + 1 + k := ⟨n - m - 1, by omega⟩
          rw [whN_le (by rw [e]; exact hr), e]
        cases eb : b ρ with
        | nx ρ' => rw [eb] at w; exact step ρ' w
        | ct ρ' => rw [eb] at w; exact step ρ' w
        | bk ρ' => rw [eb] at w; exact ⟨.nx ρ', rfl, (fun z => by cases z), w⟩
        | rt d => rw [eb] at w; exact ⟨.rt d, rfl, (fun z => by cases z), w⟩
        | no => rw [eb] at w; exact w.elim
  obtain ⟨r, e, hr, q⟩ := key n ρ h0
  unfold Wp
  rw [sWhile_of e hr]
  exact q
end
section
variable {ρ : Rho} {a b c : DE} {i j k : Int} {d e : D} {es : Rho → Option (List D)} {ds : List D}
theorem ev_add (ha : a ρ = some (.int i)) (hb : b ρ = some (.int j)) : dAdd a b ρ = some (.int (i + j)) := by unfold dAdd dII; rw [ha, hb]
theorem ev_sub (ha : a ρ = some (.int i)) (hb : b ρ = some (.int j)) : dSub a b ρ = some (.int (i - j)) := by unfold dSub dII; rw [ha, hb]
theorem ev_mul (ha : a ρ = some (.int i)) (hb : b ρ = some (.int j)) (h : IntMulOk i j) : dMul a b ρ = some (.int (i * j)) := by unfold dMul dII; rw [ha, hb]; exact gC_pos h
theorem ev_mod (ha : a ρ = some (.int i)) (hb : b ρ = some (.int j)) (h : 0 < j) : dMod a b ρ = some (.int (i % j)) := by unfold dMod dII; rw [ha, hb]; exact gC_pos (C := fun _ j => 0 < j) h
theorem ev_pow (ha : a ρ = some (.int i)) (hb : b ρ = some (.int j)) (h : CPow i j) : dPow a b ρ = some (.int (i ^ j.toNat)) := by unfold dPow dII; rw [ha, hb]; exact gC_pos h
theorem ev_lt (ha : a ρ = some (.int i)) (hb : b ρ = some (.int j)) : dLt a b ρ = some (.bl (decide (i < j))) := by unfold dLt dII; rw [ha, hb]
theorem ev_max2 (ha : a ρ = some (.int i)) (hb : b ρ = some (.int j)) : dMax2 a b ρ = some (.int (max i j)) := by
  have e : (if j > i then j else i) = max i j := by split <;> omega
  unfold dMax2 dII; rw [ha, hb, ← e]
theorem ev_t {x : Bool} (ha : a ρ = some (.bl x)) : dT a ρ = some x := by unfold dT; rw [ha]
theorem ev_tru {x : Bool} (ha : a ρ = some d) (h : truD d = some x) : dTru a ρ = some x := by unfold dTru; rw [ha]; exact h
theorem ev_not {p : Rho → Option Bool} {x : Bool} (ha : p ρ = some x) : dNot p ρ = some (!x) := by unfold dNot; rw [ha]
theorem ev_and {p q : Rho → Option Bool} {x y : Bool} (ha : p ρ = some x) (hb : x = true → q ρ = some y) : dAnd p q ρ = some (x && y) := by
  unfold dAnd; rw [ha]; cases x
  · rfl
  · rw [hb rfl]; rfl
theorem ev_or {p q : Rho → Option Bool} {x y : Bool} (ha : p ρ = some x) (hb : x = false → q ρ = some y) : dOr p q ρ = some (x || y) := by
  unfold dOr; rw [ha]; cases x
  · rw [hb rfl]; rfl
  · rfl
theorem ev_andV {x y : Bool} (ha : a ρ = some (.bl x)) (hb : x = true → b ρ = some (.bl y)) : dAndV a b ρ = some (.bl (x && y)) := by
  unfold dAndV; rw [ha]; cases x
  · rfl
  · rw [hb rfl]; rfl
theorem ev_scal (ha : a ρ = some d) (h : d.scal = true) : gScal a ρ = some d := by unfold gScal; rw [ha]; exact if_pos h
theorem ev_lst (h : es ρ = some ds) : dLst es ρ = some (.lst ds) := by unfold dLst; rw [h]; rfl
theorem ev_cons (h : a ρ = some d) (h2 : es ρ = some ds) : dCons a es ρ = some (d :: ds) := by unfold dCons; rw [h, h2]
theorem ev_ix (ha : a ρ = some d) (hb : b ρ = some (.int i)) (h : ixD d i = some e) : dIx a b ρ = some e := by unfold dIx; rw [ha, hb]; exact h
theorem ev_f1 {g : D → Option D} (ha : a ρ = some d) (h : g d = some e) : dF1 g a ρ = some e := by unfold dF1; rw [ha]; exact h
theorem ev_call {F : List D → Option D} (h : es ρ = some ds) (h2 : F ds = some d) : dCall F es ρ = some d := by unfold dCall; rw [h]; exact h2
theorem ev_eq {neg : Bool} (ha : a ρ = some d) (hb : b ρ = some e) (h : cmpb 20 d e = true) : dEq neg a b ρ = some (.bl (if neg = true then !decide (d = e) else decide (d = e))) := by unfold dEq; rw [ha, hb]; exact if_pos h
theorem ev_eqI {neg : Bool} (ha : a ρ = some (.int i)) (hb : b ρ = some (.int j)) : dEq neg a b ρ = some (.bl (if neg = true then !decide (i = j) else decide (i = j))) := by
  rw [ev_eq ha hb rfl]
  have e : decide (D.int i = D.int j) = decide (i = j) := by rw [dec_int]; rw [Bool.eq_iff_iff]; simp
  rw [e]
theorem ev_eqF (ha : a ρ = some (.int i)) (hb : b ρ = some (.int j)) : dEq false a b ρ = some (.bl (decide (i = j))) := ev_eqI (neg := false) ha hb
theorem ev_neF (ha : a ρ = some (.int i)) (hb : b ρ = some (.int j)) : dEq true a b ρ = some (.bl (decide (i ≠ j))) := by
  rw [ev_eqI (neg := true) ha hb, if_pos rfl]
  congr 2
  rw [Bool.eq_iff_iff]
  simp
theorem ev_eqSame {d : D} (ha : a ρ = some d) (hb : b ρ = some d) (h : cmpb 20 d d = true) : dEq false a b ρ = some (.bl true) := by
  rw [ev_eq ha hb h, if_neg Bool.false_ne_true, decide_eq_true rfl]
theorem cmp_ints {n : Nat} (xs ys : List Int) : cmpb (n + 1) (.lst (xs.map D.int)) (.lst (ys.map D.int)) = true := by
  show (decide _ || (List.zip (xs.map D.int) (ys.map D.int)).all fun p => cmpb n p.1 p.2) = true
  rw [Bool.or_eq_true]
  refine .inr (List.all_eq_true.mpr fun q hq => ?_)
  obtain ⟨a, b⟩ := q
  obtain ⟨h1, h2⟩ := List.of_mem_zip hq
  obtain ⟨x, _, rfl⟩ := List.mem_map.mp h1
  obtain ⟨y, _, rfl⟩ := List.mem_map.mp h2
  cases n <;> rfl
theorem ev_asL (ha : a ρ = some d) (h : lof d = some ds) : asL a ρ = some ds := by unfold asL; rw [ha]; exact h
theorem ev_rep (h : es ρ = some ds) (hb : b ρ = some (.int i)) (hc : -(2 ^ 63) ≤ i ∧ i < 2 ^ 63 ∧ ds.length * i.toNat ≤ sizeLine) : dRep es b ρ = some (List.replicate i.toNat ds).flatten := by unfold dRep; rw [h, hb]; exact if_pos hc
theorem ev_sl {lo hi : Rho → Option (Option Int)} {l u : Option Int} (h : asL a ρ = some ds) (h1 : lo ρ = some l) (h2 : hi ρ = some u) : dSl a lo hi ρ = some (cutL ds l u) := by unfold dSl; rw [h, h1, h2]
theorem ev_flat (h : es ρ = some ds) (hf : flatL ds = true) : gFlat es ρ = some ds := by unfold gFlat; rw [h]; exact if_pos hf
theorem ev_lof (h : a ρ = some d) (hl : lof d = some ds) : dLof a ρ = some ds := by
  unfold dLof; rw [h]
  cases d with
  | lst xs => exact hl
  | scr ns => exact hl
  | _ => cases hl
theorem ev_oSome (ha : a ρ = some (.int i)) : oSome a ρ = some (some i) := by unfold oSome; rw [ha]
theorem run_of {n : Nat} {ms : List Bool} {b : DS} {ds : List D} {P : D → Prop} (h : Wp b (stD n ms ds) { nx := fun _ => P .non, rt := P }) : ∃ d, runD n ms b ds = some d ∧ P d := by
  unfold Wp at h
  unfold runD
  cases e : b (stD n ms ds) with
  | nx ρ => rw [e] at h; exact ⟨_, rfl, h⟩
  | rt d => rw [e] at h; exact ⟨_, rfl, h⟩
  | bk ρ => rw [e] at h; exact h.elim
  | ct ρ => rw [e] at h; exact h.elim
  | no => rw [e] at h; exact h.elim
theorem run_eq {n : Nat} {ms : List Bool} {b : DS} {ds : List D} {d : D} (h : Wp b (stD n ms ds) { nx := fun _ => D.non = d, rt := fun x => x = d }) : runD n ms b ds = some d := by
  obtain ⟨x, e, rfl⟩ := run_of (P := fun x => x = d) h
  exact e
theorem run_ofF {F : List D → Option D} {n : Nat} {ms : List Bool} {b : DS} (hF : F = runD n ms b) {ds : List D} {P : D → Prop} (h : Wp b (stD n ms ds) { nx := fun _ => P .non, rt := P }) : ∃ d, F ds = some d ∧ P d := by rw [hF]; exact run_of h
theorem run_eqF {F : List D → Option D} {n : Nat} {ms : List Bool} {b : DS} (hF : F = runD n ms b) {ds : List D} {d : D} (h : Wp b (stD n ms ds) { nx := fun _ => D.non = d, rt := fun x => x = d }) : F ds = some d := by rw [hF]; exact run_eq h
theorem imul {i j : Int} (h : (-(2 ^ 64) < i ∧ i < 2 ^ 64) ∨ (-(2 ^ 64) < j ∧ j < 2 ^ 64)) : IntMulOk i j := CMul.ok h
theorem ixI {ns : List Int} {i : Int} (h0 : 0 ≤ i) (h1 : i < ns.length) : ixD (.lst (ns.map D.int)) i = some (.int (ns.getD i.toNat 0)) := by
  show atI (ns.map D.int) i = _
  unfold atI ixN
  rw [if_pos h0, List.length_map, if_pos h1]
  show (ns.map D.int)[i.toNat]? = _
  have hi : i.toNat < ns.length := by omega
  rw [List.getElem?_map, List.getElem?_eq_getElem hi, List.getD_eq_getElem?_getD, List.getElem?_eq_getElem hi]
  rfl
theorem ixS {ns : List Int} {i : Int} (h0 : 0 ≤ i) (h1 : i < ns.length) : ixD (.scr ns) i = some (.int (ns.getD i.toNat 0)) := by
  show (atI ns i).map D.int = _
  unfold atI ixN
  rw [if_pos h0, if_pos h1]
  have hi : i.toNat < ns.length := by omega
  show (ns[i.toNat]?).map D.int = _
  rw [List.getElem?_eq_getElem hi, List.getD_eq_getElem?_getD, List.getElem?_eq_getElem hi]
  rfl
def pk3 (i x y z : Int) : Int := if i = 0 then x else if i = 1 then y else z
theorem ix3I (c x y z : Int) : ixD (.lst [.int x, .int y, .int z]) (c % 3) = some (.int (pk3 (c % 3) x y z)) := by
  have h : c % 3 = 0 ∨ c % 3 = 1 ∨ c % 3 = 2 := by omega
  rcases h with h | h | h <;> rw [h] <;> rfl
theorem ixN_in {n : Nat} {i : Int} (h0 : 0 ≤ i) (h1 : i < n) : ixN n i = some i.toNat := by unfold ixN; rw [if_pos h0, if_pos h1]
end
end
end VL
set_option Elab.async false
set_option linter.all false
set_option maxRecDepth 100000
namespace L2
open PySem PySem.Spec PyProof.Rows
section
variable {prog : Program} {w : World} {A : Around} {R : Result → Shared → Prop} {I : Addr} {fp wr : List Addr} {n : Nat} {P : Nat → Value → Prop} {St : Nat → Heap → Prop} {kw : List (Str × Value)}
end
section
variable {prog : Program} {w : World} {A : Around} {E : Value → Shared → Prop} {s : Shared}
end
section
variable {X : Cx}
end
section
variable {X : Cx} {K : PySem.W.Frag}
end
end L2
namespace VL
open PySem L2
open Classical
noncomputable section
section
variable [Tabs] {K : PySem.W.Frag} {ta tb tc : TE} {a b c : DE}
theorem ev_compA {α : Type} {ρ : Rho} {k : Nat} {cs : List Nat} {it : Rho → Option (List D)} {g : DG} {t : Rho → Option Bool} {el : DE} (emb : α → D) {xs : List α} (h : it ρ = some (xs.map emb)) (p : α → Bool) (f : α → D)
    (hs : ∀ x ∈ xs, ∃ ρ1, g (emb x) (r0 k cs ρ) = some ρ1 ∧ t ρ1 = some (p x) ∧ (p x = true → el ρ1 = some (f x))) : dComp k cs it g t el ρ = some ((xs.filter p).map f) := by
  unfold dComp
  rw [h]
  dsimp only
  clear h
  induction xs with
  | nil => rfl
  | cons x r ih =>
    obtain ⟨ρ1, e1, e2, e3⟩ := hs x List.mem_cons_self
    have ih := ih fun d hd => hs d (List.mem_cons_of_mem _ hd)
    rw [List.map_cons]
    unfold compGo
    rw [e1]
    dsimp only
    rw [e2]
    cases hp : p x with
    | false =>
      dsimp only
      rw [ih, List.filter_cons_of_neg (by simp [hp])]
    | true =>
      dsimp only
      rw [e3 hp, ih, List.filter_cons_of_pos hp]
      rfl
theorem ev_compA0 {α : Type} {ρ : Rho} {k : Nat} {cs : List Nat} {it : Rho → Option (List D)} {g : DG} {el : DE} (emb : α → D) {xs : List α} (h : it ρ = some (xs.map emb)) (f : α → D)
    (hs : ∀ x ∈ xs, ∃ ρ1, g (emb x) (r0 k cs ρ) = some ρ1 ∧ el ρ1 = some (f x)) : dComp k cs it g dTrue el ρ = some (xs.map f) := by
  have := ev_compA (ρ := ρ) (k := k) (cs := cs) (it := it) (g := g) (t := dTrue) (el := el) emb h (fun _ => true) f fun d hd => let ⟨ρ1, e1, e2⟩ := hs d hd; ⟨ρ1, e1, rfl, fun _ => e2⟩
  rw [this, List.filter_eq_self.mpr fun _ _ => rfl]
theorem cmp_lst {n : Nat} {xs ys : List D} (h : ∀ x ∈ xs, ∀ y ∈ ys, cmpb n x y = true) : cmpb (n + 1) (.lst xs) (.lst ys) = true := by
  show (decide _ || (List.zip xs ys).all fun p => cmpb n p.1 p.2) = true
  rw [Bool.or_eq_true]
  refine .inr (List.all_eq_true.mpr fun q hq => ?_)
  obtain ⟨a, b⟩ := q
  obtain ⟨h1, h2⟩ := List.of_mem_zip hq
  exact h a h1 b h2
theorem cmp_rows {n : Nat} (T S : List (List Int)) : cmpb (n + 2) (.lst (T.map fun r => .lst (r.map D.int))) (.lst (S.map fun r => .lst (r.map D.int))) = true := by
  refine cmp_lst fun x hx y hy => ?_
  obtain ⟨a, _, rfl⟩ := List.mem_map.mp hx
  obtain ⟨b, _, rfl⟩ := List.mem_map.mp hy
  exact cmp_ints a b
end
end
end VL
namespace L2
end L2
set_option Elab.async false
set_option linter.all false
set_option maxRecDepth 100000
namespace L2
open PySem PySem.Spec PyProof.Rows
open VL (s0)
structure FreesC (X : Cx) (N' : List Str) (scope : Scope) (cl : List (Str × Addr)) (σ σ0 : St) : Prop where
  sub : ∀ x c, cl.lookup x = some c → X.env.cells.lookup x = some c
  vals : ∀ (j : Nat) (x : Str) (v : V), N'[j]? = some x → σ0[j]? = some (some v) → ∃ (i : Nat) (c : Addr), X.N[i]? = some x ∧ σ[i]? = some (some v) ∧ Vis X.env.scope x ∧ X.env.kindOf x ≠ some .local ∧ cl.lookup x = some c ∧
    ((relabel scope X.env).names.lookup x = some .cell ∨ (relabel scope X.env).names.lookup x = some .free)
  vout : ∀ (j : Nat) (x : Str) (v : V), N'[j]? = some x → σ0[j]? = some (some v) → (scope.names.all fun y => !(y.2 == .cell) || !(y.1 == x)) = true
  has : ∀ x, ((relabel scope X.env).names.lookup x = some .cell ∨ (relabel scope X.env).names.lookup x = some .free) → scope.names.lookup x = some .cell ∨ (cl.lookup x).isSome = true
  out : ∀ x c, (scope.names.lookup x == some .cell) = true → ¬ cl.lookup x = some c
  len : σ0.length = N'.length
section
variable {X : Cx} {tg elt iter : Expr} {ifs : List Expr} {scope : Scope} {cl : List (Str × Addr)} {N' : List Str} {σ0 : St → St} {g : TG} {tt : TT} {te : TE}
variable {pos : Pos} {wi : TI}
variable {c : Expr} {ts zs : List Str} {is : List Nat} {k : Nat}
end
end L2
namespace L2
open PySem PySem.Spec PyProof.Rows
end L2
set_option Elab.async false
set_option linter.all false
set_option maxRecDepth 100000
namespace L2
open PySem PySem.Spec PyProof.Rows
section
variable {X : Cx}
end
end L2
namespace VL
open PySem L2
open Classical
noncomputable section
variable [Tabs] {K : PySem.W.Frag}
end
end VL
namespace PySem
open Sem (wp)
section
variable {prog : Program} {w : World} {A : Around} {E : Value → Shared → Prop} {s : Shared}
end
end PySem
namespace L2
open PySem PySem.Spec PyProof.Rows
section
variable {X : Cx}
end
end L2
namespace VL
open PySem L2
open Classical
noncomputable section
variable [Tabs] {K : PySem.W.Frag}
end
end VL
set_option Elab.async false
set_option linter.all false
set_option maxRecDepth 100000
namespace VL
open PySem L2
open Classical
noncomputable section
variable [Tabs] {K : PySem.W.Frag} {fr : Fm}
def SemM (K : PySem.W.Frag) (t : TE) (e : Rho → Option (List (List D))) : Prop := ∀ {B : Hp} {Z : Addr → Prop} {os : Own} {ρ : Rho} {σ : L2.St} {H : Hp} {Q : VK} {rows : List (List D)}, Fr K B Z os ρ σ H → e ρ = some rows →
  (∀ x ps H', Same H H' → H x = none → (∀ a ∈ ps, H a = none) → (x :: ps).Nodup → H' x = some (.lst (ps.map V.ref)) → ps.length ≤ sizeLine → Paired (fun q ds => ∃ vs, H' q = some (.lst vs) ∧ vs.length ≤ sizeLine ∧ IsL K H' (fun a => (a = x ∨ a ∈ ps) ∨ tot Z os a) vs ds) ps rows → Q (.ref x) H') → t σ H Q
def rowsL (rows : List (List D)) : D := .lst (rows.map D.lst)
def unrow : D → Option (List D)
  | .lst ds => some ds
  | _ => none
def unrows : List D → Option (List (List D))
  | [] => some []
  | d :: r => match unrow d with
    | some x => (match unrows r with
      | some y => some (x :: y)
      | none => none)
    | none => none
theorem unrows_map : ∀ (rows : List (List D)), unrows (rows.map D.lst) = some rows
  | [] => rfl
  | x :: r => by show (match unrow (.lst x) with | some x => (match unrows (r.map D.lst) with | some y => some (x :: y) | none => none) | none => none) = _; rw [unrows_map r]; rfl
def dCallM (F : List D → Option D) (es : Rho → Option (List D)) : Rho → Option (List (List D)) := fun ρ => match dCall F es ρ with
  | some (.lst ds) => unrows ds
  | _ => none
theorem sm_call {ms : List Bool} {F : List D → Option D} {t : TA} {es : Rho → Option (List D)} {E : XK} (ha : SemA K ms t es) : SemM K (tCall (spD .m K ms F) [] E t) (dCallM F es) := fun {B Z os ρ σ H Q rows} f q k => by
  unfold dCallM at q
  split at q
  · rename_i xs e1
    unfold dCall at e1
    split at e1
    · rename_i as e
      refine ha f e fun vs H1 s1 a => ?_
      show spD .m K ms F (vs ++ []) H1 Q E
      rw [List.append_nil]
      refine ⟨tot Z os, as, .lst xs, (f.grow s1).zt, a, e1, fun v H2 s2 i => ?_⟩
      obtain ⟨p, ps, rows', rfl, ed, hb, hbs, hn, hh, hl, r⟩ := i
      cases ed
      rw [unrows_map] at q
      cases q
      exact k p ps H2 (s1.trans s2) (Same.free s1 hb) (fun a ha => Same.free s1 (hbs a ha)) hn hh hl r
    · cases e1
  · cases q
@[irreducible] def sSetM (i : Nat) (a : Rho → Option (List (List D))) : DS := fun ρ => match a ρ with
  | some rows => if i < ρ.length then .nx (ρ.set i (.om rows)) else .no
  | none => .no
theorem ss_setM {i : Nat} {ta : TE} {a : Rho → Option (List (List D))} (h : SemM K ta a) : SemS fr K (tAsg ta (gName i)) (sSetM i a) := fun {B Z os ρ σ H E} f p => by
  unfold sSetM at p
  split at p
  · rename_i rows e
    by_cases hi : i < ρ.length
    · rw [if_pos hi] at p
      refine h f e fun x ps H1 s1 hx hps hn hH hl r => ?_
      have st := f.step (H' := H1) (i := i) hi (o := x :: ps) (s := .om rows) (v := some (.ref x)) (fun a u e _ => s1 _ _ e) (fun a ha => let ⟨xs, e⟩ := (f.sl i).dom ha; ⟨_, s1 _ _ e⟩) hn (fun a ha => ?_)
        ⟨x, ps, rfl, rfl, hH, hl, Paired.mono r fun q ds _ ⟨vs, h1, h2, h3⟩ => ⟨vs, h1, h2, h3.kp (Kp.less fun a z => ?_)⟩⟩
      · exact p _ _ _ st.1 st.2
      · rcases List.mem_cons.mp ha with rfl | ha
        · exact .inr hx
        · exact .inr (hps a ha)
      · rcases z with z | ⟨j, z⟩
        · exact .inr (.inl z)
        · by_cases hj : j = i
          · subst hj; rw [putO_same] at z; exact .inl (List.mem_cons.mp z)
          · rw [putO_ne hj] at z; exact .inr (.inr ⟨j, z⟩)
    · rw [if_neg hi] at p; exact p.elim
  · exact p.elim
theorem Paired.setAt {α β : Type} {F G : α → β → Prop} {p : α} {y : β} : ∀ {ps : List α} {rows : List β} {r : Nat}, Paired F ps rows → ps.Nodup → (∀ q ds, q ≠ p → F q ds → G q ds) → ps[r]? = some p → G p y → Paired G ps (rows.set r y)
  | _, _, 0, .cons h t, hn, hf, e, g => by
    cases e
    exact .cons g (Paired.mono t fun q ds hq h => hf q ds (fun z => (List.nodup_cons.mp hn).1 (z ▸ hq)) h)
  | _, _, r + 1, .cons h t, hn, hf, e, g => by
    have e' := show _ = some p by simpa using e
    exact .cons (hf _ _ (fun z => (List.nodup_cons.mp hn).1 (z ▸ List.mem_of_getElem? e')) h) (Paired.setAt t (List.nodup_cons.mp hn).2 hf e' g)
theorem Paired.getF {α β : Type} {F : α → β → Prop} : ∀ {ps : List α} {rows : List β} {r : Nat} {y : β}, Paired F ps rows → rows[r]? = some y → ∃ p, ps[r]? = some p ∧ F p y
  | _, _, 0, _, .cons h _, e => by cases e; exact ⟨_, rfl, h⟩
  | _, _, r + 1, _, .cons _ t, e => by
    obtain ⟨p, e1, h⟩ := Paired.getF (r := r) t (by simpa using e)
    exact ⟨p, by simpa using e1, h⟩
theorem om_of {B H : Hp} {Z : Addr → Prop} {os : Own} {ρ : Rho} {σ : L2.St} (f : Fr K B Z os ρ σ H) {i : Nat} {rows : List (List D)} (e : ρ.getD i .un = .om rows) :
    ∃ a ps, os i = a :: ps ∧ (σ[i]?).join = some (.ref a) ∧ H a = some (.lst (ps.map V.ref)) ∧ ps.length ≤ sizeLine ∧ ps.length = rows.length ∧ Paired (fun p ds => ∃ vs, H p = some (.lst vs) ∧ vs.length ≤ sizeLine ∧ IsL K H (tot Z os) vs ds) ps rows := by
  have s := f.sl i
  rw [e] at s
  obtain ⟨a, ps, h1, h2, h3, h4, h5⟩ := s
  exact ⟨a, ps, h1, h2, h3, h4, Paired.length h5, h5⟩
theorem Fr.mutM1 {B H : Hp} {Z : Addr → Prop} {os : Own} {ρ : Rho} {σ : L2.St} (f : Fr K B Z os ρ σ H) {i r : Nat} {a p : Addr} {ps : List Addr} {rows : List (List D)} {ds' : List D} {vs' : List V} (e : ρ.getD i .un = .om rows) (eo : os i = a :: ps) (hu : (σ[i]?).join = some (.ref a)) (hr : ps[r]? = some p) (hl : vs'.length ≤ sizeLine) (h : IsL K H (tot Z os) vs' ds') :
    Fr K B Z (putO os i (a :: ps)) (ρ.set i (.om (rows.set r ds'))) σ (upd H p (.lst vs')) ∧ Kp (tot Z os) H (tot Z (putO os i (a :: ps))) (upd H p (.lst vs')) := by
  have s := f.sl i
  rw [e] at s
  obtain ⟨b, qs, eo', hu', hH, hlp, i1⟩ := s
  rw [eo] at eo'
  cases eo'
  have hi := getD_lt e (by intro z; cases z)
  have hn := f.nd i
  rw [eo] at hn
  have hp : p ∈ ps := List.mem_of_getElem? hr
  have hpo : p ∈ os i := by rw [eo]; exact List.mem_cons_of_mem _ hp
  have hap : a ≠ p := fun z => (List.nodup_cons.mp hn).1 (z ▸ hp)
  have tt : tot Z (putO os i (a :: ps)) = tot Z os := by
    funext c
    apply propext
    constructor
    · rintro (z | ⟨j, z⟩)
      · exact .inl z
      · by_cases hj : j = i
        · subst hj; rw [putO_same] at z; exact .inr ⟨j, by rw [eo]; exact z⟩
        · rw [putO_ne hj] at z; exact .inr ⟨j, z⟩
    · rintro (z | ⟨j, z⟩)
      · exact .inl z
      · by_cases hj : j = i
        · subst hj; exact .inr ⟨j, by rw [putO_same, ← eo]; exact z⟩
        · exact .inr ⟨j, by rw [putO_ne hj]; exact z⟩
  have kp : Kp (tot Z os) H (tot Z os) (upd H p (.lst vs')) := fun b u e z => ⟨by rw [upd_ne (fun w => z (.inr ⟨i, by rw [w]; exact hpo⟩))]; exact e, z⟩
  have st := f.step (H' := upd H p (.lst vs')) (i := i) hi (o := a :: ps) (s := .om (rows.set r ds')) (v := some (.ref a)) (fun b u e n => by rw [upd_ne (fun z => n (by rw [z]; exact hpo))]; exact e) (fun b hb => ?_) hn (fun b hb => by rw [← eo] at hb; exact .inl hb)
    ⟨a, ps, rfl, rfl, by rw [upd_ne hap]; exact hH, hlp, ?_⟩
  · rw [set_self hu'] at st
    exact st
  · by_cases hb' : b = p
    · rw [hb']; exact ⟨_, upd_same⟩
    · rw [upd_ne hb']; obtain ⟨xs, e⟩ := (f.sl i).dom hb; exact ⟨_, e⟩
  · rw [tt]
    exact Paired.setAt i1 (List.nodup_cons.mp hn).2 (fun q ds hq ⟨vs, h1, h2, h3⟩ => ⟨vs, by rw [upd_ne hq]; exact h1, h2, h3.kp kp⟩) hr ⟨vs', upd_same, hl, h.kp kp⟩
theorem Fr.mutM {B H : Hp} {Z : Addr → Prop} {os : Own} {ρ : Rho} {σ : L2.St} (f : Fr K B Z os ρ σ H) {i r : Nat} {a p : Addr} {ps : List Addr} {rows : List (List D)} {ds' : List D} {vs' : List V} (e : ρ.getD i .un = .om rows) (eo : os i = a :: ps) (hu : (σ[i]?).join = some (.ref a)) (hr : ps[r]? = some p) (hl : vs'.length ≤ sizeLine) (h : IsL K H (tot Z os) vs' ds') :
    ∃ os', Fr K B Z os' (ρ.set i (.om (rows.set r ds'))) σ (upd H p (.lst vs')) ∧ Kp (tot Z os) H (tot Z os') (upd H p (.lst vs')) := ⟨_, f.mutM1 e eo hu hr hl h⟩
theorem row_at {B H : Hp} {Z : Addr → Prop} {os : Own} {ρ : Rho} {σ : L2.St} (f : Fr K B Z os ρ σ H) {i : Nat} {rows : List (List D)} {n : Int} {r : Nat} {ds : List D} (e : ρ.getD i .un = .om rows) (hn : ixN rows.length n = some r) (hd : rows[r]? = some ds) :
    ∃ a ps p vs, os i = a :: ps ∧ (σ[i]?).join = some (.ref a) ∧ H a = some (.lst (ps.map V.ref)) ∧ atI (ps.map V.ref) n = some (V.ref p) ∧ ps[r]? = some p ∧ H p = some (.lst vs) ∧ vs.length ≤ sizeLine ∧ IsL K H (tot Z os) vs ds := by
  obtain ⟨a, ps, h1, h2, h3, h4, h5, h6⟩ := om_of f e
  obtain ⟨p, e1, vs, g1, g2, g3⟩ := Paired.getF h6 hd
  refine ⟨a, ps, p, vs, h1, h2, h3, ?_, e1, g1, g2, g3⟩
  unfold atI
  rw [List.length_map, h5, hn]
  show (ps.map V.ref)[r]? = _
  rw [List.getElem?_map, e1]
  rfl
@[irreducible] def sPut2 (i : Nat) (b c a : DE) : DS := fun ρ => match ρ.getD i .un with
  | .om rows => (match a ρ with
    | some d => (match b ρ with
      | some (.int n) => (match ixN rows.length n with
        | some r => (match rows[r]? with
          | some ds => (match c ρ with
            | some (.int m) => (match ixN ds.length m with
              | some j => .nx (ρ.set i (.om (rows.set r (ds.set j d))))
              | none => .no)
            | _ => .no)
          | none => .no)
        | none => .no)
      | _ => .no)
    | none => .no)
  | _ => .no
theorem ss_put2 {i : Nat} {ta tb tc : TE} {a b c : DE} (ha : SemI K ta a) (hb : SemB K tb b) (hc : SemB K tc c) : SemS fr K (tAsg ta (gSub (tOp (rIx K) (tVar i) tb) tc rSetL)) (sPut2 i b c a) := fun {B Z os ρ σ H E} f p => by
  unfold sPut2 at p
  split at p
  · rename_i rows e
    split at p
    · rename_i d e1
      split at p
      · rename_i n e2
        split at p
        · rename_i r e3
          split at p
          · rename_i ds e4
            split at p
            · rename_i m e5
              split at p
              · rename_i j e6
                obtain ⟨x, ps, q, vs, eo, hu, hH, hat, hr, hq, hl, il⟩ := row_at f e e3 e4
                refine ha f e1 fun v H1 s1 i1 => ⟨_, join_some hu, hb (f.grow s1) e2 fun w H2 s2 i2 => ?_⟩
                have s12 := s1.trans s2
                refine .inl ⟨x, ps.map V.ref, n, .ref q, rfl, i2.isInt, SqL.of (s12 _ _ hH), hat, hc (f.grow s12) e5 fun u H3 s3 i3 => ?_⟩
                have s13 := s12.trans s3
                have f3 := f.grow s13
                obtain ⟨os', f', k⟩ := f3.mutM (vs' := vs.set j v) (ds' := ds.set j d) e eo hu hr (by rw [List.length_set]; exact hl) ((il.same s13).set ((i1.same s2).same s3) j)
                exact ⟨q, vs, m, j, rfl, i3.isInt, s13 _ _ hq, by rw [il.length]; exact e6, p os' _ _ f' ((Kp.same s13).trans k)⟩
              · exact p.elim
            · exact p.elim
          · exact p.elim
        · exact p.elim
      · exact p.elim
    · exact p.elim
  · exact p.elim
end
end VL
set_option Elab.async false
set_option linter.all false
set_option maxRecDepth 100000
namespace VL
open PySem L2
open Classical
noncomputable section
variable [Tabs] {K : PySem.W.Frag} {fr : Fm}
theorem blockFrZ {B H1 H : Hp} {Z W : Addr → Prop} {os : Own} {ρ : Rho} {σ : L2.St} (f : Fr K B Z os ρ σ H1) (s : Same H1 H) (hw : ∀ a, W a → ∃ o, H a = some o) (hk : Kp (tot Z os) H1 W H) (k : Nat) (cs : List Nat) :
    Fr K H1 W (fun _ => []) (r0 k cs ρ) (s0 k cs σ) H where
  keep := s
  zin := hw
  tab := f.tabH
  len := by unfold r0 s0; simp
  nd := fun _ => List.nodup_nil
  dj := fun _ _ _ h => by cases h
  new := fun _ _ h => by cases h
  sl := fun j => by
    have kp : Kp (tot Z os) H1 (tot W fun _ => []) H := fun a u e z => ⟨(hk a u e z).1, fun q => q.elim (hk a u e z).2 fun ⟨_, q⟩ => by cases q⟩
    unfold r0 s0
    rw [List.getD_eq_getElem?_getD]
    by_cases hj : j < k
    · rw [List.getElem?_append_left (by simpa using hj), List.getElem?_append_left (by simpa using hj), List.getElem?_replicate, if_pos hj]
      exact rfl
    · rw [List.getElem?_append_right (by simpa using hj), List.getElem?_append_right (by simpa using hj), List.length_replicate, List.length_replicate, List.getElem?_map, List.getElem?_map]
      cases e : cs[j - k]? with
      | none => exact rfl
      | some i =>
        have h := f.sl i
        show SlOk K _ _ _ _ (view (ρ.getD i .un)) ((σ[i]?).join)
        cases e2 : ρ.getD i .un with
        | un => exact rfl
        | pu d =>
          rw [e2] at h
          obtain ⟨_, u, hu, i1⟩ := h
          exact ⟨rfl, u, hu, i1.kp kp⟩
        | bo d =>
          rw [e2] at h
          obtain ⟨_, u, hu, i1⟩ := h
          exact ⟨rfl, u, hu, i1.same f.keep⟩
        | ol ds =>
          rw [e2] at h
          obtain ⟨a, vs, _, hu, hH, hl, i1⟩ := h
          exact ⟨rfl, _, hu, .lst (fun z => z) (.inl hH) hl i1.all⟩
        | om rows =>
          rw [e2] at h
          obtain ⟨a, ps, _, hu, hH, hl, i1⟩ := h
          exact ⟨rfl, _, hu, .lst (fun z => z) (.inl hH) (by rw [List.length_map]; exact hl) (rows_is i1)⟩
section
variable {s u b : DS} {ρ : Rho} {W : Wk} {i : Nat} {a e k c : DE} {d : D} {rows : List (List D)} {ds : List D}
theorem wp_setM {es : Rho → Option (List (List D))} (h : es ρ = some rows) (hi : i < ρ.length) (k : W.nx (ρ.set i (.om rows))) : Wp (sSetM i es) ρ W := by unfold Wp sSetM; rw [h]; simp only [if_pos hi]; exact k
theorem wp_put2 {n m : Int} {r j : Nat} (h0 : ρ.getD i .un = .om rows) (h1 : a ρ = some d) (h2 : e ρ = some (.int n)) (h3 : ixN rows.length n = some r) (h4 : rows[r]? = some ds) (h5 : c ρ = some (.int m)) (h6 : ixN ds.length m = some j) (k : W.nx (ρ.set i (.om (rows.set r (ds.set j d))))) : Wp (sPut2 i e c a) ρ W := by
  unfold Wp sPut2; rw [h0]; simp only [h1, h2, h3, h4, h5, h6]; exact k
theorem ev_callM {F : List D → Option D} {es : Rho → Option (List D)} {xs : List D} (h : es ρ = some xs) (h2 : F xs = some (rowsL rows)) : dCallM F es ρ = some rows := by unfold dCallM dCall; rw [h]; simp only [h2]; exact unrows_map rows
end
theorem run_eqG {F : List D → Option D} {n : Nat} {ms : List Bool} {b : DS} (hF : F = runF n ms b) {ds : List D} {d : D} (h : Wp b (stD n ms ds) { nx := fun _ => False, rt := fun x => x = d }) : F ds = some d := by
  rw [hF]
  unfold runF
  unfold Wp at h
  cases e : b (stD n ms ds) with
  | rt x => rw [e] at h; show some x = some d; rw [show x = d from h]
  | nx ρ => rw [e] at h; exact h.elim
  | bk ρ => rw [e] at h; exact h.elim
  | ct ρ => rw [e] at h; exact h.elim
  | no => rw [e] at h; exact h.elim
end
end VL
set_option Elab.async false
set_option linter.all false
set_option maxRecDepth 100000
namespace VL
open PySem L2
open Classical
noncomputable section
variable [Tabs] {K : PySem.W.Frag} {fr : Fm}
inductive Puts (K : PySem.W.Frag) : List (TE × TE) → List (DE × DE) → Prop
  | nil : Puts K [] []
  | cons {tc ta : TE} {c a : DE} {l : List (TE × TE)} {l' : List (DE × DE)} (ha : SemI K ta a) (hc : SemB K tc c) (r : Puts K l l') : Puts K ((tc, ta) :: l) ((c, a) :: l')
end
end VL
set_option Elab.async false
set_option linter.all false
set_option maxRecDepth 100000
namespace L2
open PySem PySem.Spec PyProof.Rows
structure Hop (fr ch : List Addr) (h h' : Heap) : Prop where
  keep : ∀ b o, b ∉ fr → b ∉ ch → h.get? b = some o → h'.get? b = some o
  slot : ∀ b o, b ∉ ch → h.get? b = some o → ∃ sl, h'.get? b = some { o with slots := sl }
section
variable {M : Model} {A : Around} {E : Value → Shared → Prop} {s : Shared} {base : Heap} {env : Env} {outer : List Env} {L e T : Addr} {cls fl : Value} {Q : Unit → Shared → Prop}
end
structure Out (X : Cx) (pins : List (Addr × Obj)) (H : Hp) (b : Addr) : Prop where
  h : H b = none
  s0 : X.s₀.heap.get? b = none
  loc : b ≠ X.env.locals
  cell : ∀ x c, X.env.cells.lookup x = some c → c ≠ b
  pin : ∀ p ∈ X.pn ++ pins, p.1 ≠ b
section
variable {P : Program} {w : World} {H : Hp} {h : Heap} {a : Addr} {o : HO}
theorem ObjOk.live (x : ObjOk P w H h a o) : ∃ u, h.get? a = some u := by
  cases o with
  | lst xs => obtain ⟨_, _, _, _, e⟩ := x; exact ⟨_, e⟩
  | tup xs => obtain ⟨_, _, _, ob, e, _⟩ := x; exact ⟨_, e⟩
  | dK kvs => obtain ⟨_, _, _, _, o, _, _, e, _⟩ := x; exact ⟨_, e⟩
  | dT kvs => obtain ⟨_, _, _, _, o, _, _, e, _⟩ := x; exact ⟨_, e⟩
  | set S n => obtain ⟨o, _, _, _, e, _⟩ := x; exact ⟨_, e⟩
  | ins C dx fs => obtain ⟨_, _, _, e, _⟩ := x; exact ⟨_, e⟩
  | own y => exact x
  | xd fs => obtain ⟨_, ⟨_, _, _, e, _⟩, _⟩ := x; exact ⟨_, e⟩
  | rng lo hi => obtain ⟨_, _, _, e⟩ := x; exact ⟨_, e⟩
  | frz ob u => obtain ⟨e, _⟩ := x; exact ⟨_, e⟩
  | tbl ps => obtain ⟨_, _, _, _, e, _⟩ := x; exact ⟨_, e⟩
  | met f y => exact ⟨_, show h.get? a = some _ from x⟩
  | ext φ => obtain ⟨_, e, _⟩ := x; exact e
end
section
variable {X : Cx} {pins : List (Addr × Obj)} {σ : St} {H H' : Hp} {s : Shared}
theorem Inv.out (I : Inv X pins σ H s) (hx : X.ex = []) {b : Addr} (e : s.heap.get? b = none) : Out X pins H b where
  h := by
    cases q : H b with
    | none => rfl
    | some o => obtain ⟨u, hu⟩ := (I.hok b o q).live; rw [e] at hu; cases hu
  s0 := by
    cases q : X.s₀.heap.get? b with
    | none => rfl
    | some o => obtain ⟨u, hu⟩ := I.base.there b o q (by rw [hx]; simp); rw [e] at hu; cases hu
  loc := fun z => by
    obtain ⟨m, ⟨o, _, _, ho, _⟩, _⟩ := I.loc
    rw [← z, e] at ho; cases ho
  cell := fun x c q z => by
    obtain ⟨v, o, ho, _⟩ := I.cell x c q
    rw [z, e] at ho; cases ho
  pin := fun p hp z => by
    have := (I.pin p hp).1
    rw [z, e] at this; cases this
end
structure OwnX (X : Cx) : Prop where
  stk : X.stack = X.env :: X.outer
  fr : X.env.frame = some X.env.locals
  ex : X.ex = []
section
variable {X : Cx} {pins : List (Addr × Obj)} {σ : St} {H : Hp} {s s' : Shared} {E : XK} {e : Value}
end
end L2
set_option Elab.async false
set_option linter.all false
set_option maxRecDepth 100000
namespace L2
open PySem PySem.Spec PyProof.Rows
section
variable {X : Cx} {pins : List (Addr × Obj)} {σ : St} {H : Hp} {s : Shared} {a : Addr} {u : HO}
theorem Inv.track (I : Inv X pins σ H s) (o : Out X pins H a) (ob : ObjOk X.prog X.w (upd H a u) s.heap a u) : Inv X pins σ (upd H a u) s := by
  have ne : ∀ b v, H b = some v → b ≠ a := fun b v q z => by rw [z, o.h] at q; cases q
  refine ⟨I.ok, I.os, I.bare, ⟨I.base.keep, I.base.slot, fun b v q n hx => ?_, I.base.there, fun b xs q => ?_, fun b v xs q => ?_, fun b ps q => ?_⟩, I.loc, I.cell, ?_, fun x c e => ?_, fun p hp => ?_, fun b v q => ?_, I.len⟩
  · rw [upd_ne (fun z => by rw [z, o.s0] at q; cases q)]; exact I.base.free b v q n hx
  · have r := I.base.tups b xs q; rw [upd_ne (ne b _ r)]; exact r
  · have r := I.base.frzs b v xs q; rw [upd_ne (ne b _ r)]; exact r
  · obtain ⟨m, r⟩ := I.base.tbls b ps q; exact ⟨m, by rw [upd_ne (ne b _ r)]; exact r⟩
  · rw [upd_ne (Ne.symm o.loc)]; exact I.free
  · rw [upd_ne (o.cell x c e)]; exact I.freeC x c e
  · obtain ⟨e, n, r⟩ := I.pin p hp
    exact ⟨e, by rw [upd_ne (o.pin p hp)]; exact n, r⟩
  · by_cases hb : b = a
    · subst hb; rw [upd_same] at q; cases q; exact ob
    · rw [upd_ne hb] at q
      exact (I.hok b v q).stay (fun c y _ r => r) (fun c r => by rw [upd_ne (ne c _ r)]; exact r) (fun c xs r => by rw [upd_ne (ne c _ r)]; exact r) fun c o u r => by rw [upd_ne (ne c _ r)]; exact r
end
section
variable {X : Cx} {k : Nat} {f : Addr} {fd : FuncData} {ps : List Str} {sp : Sp} {x y n v : Str} {e : Expr} {es : List Expr} {t : TA} {F : Value} {iv ie : Nat} {p1 p2 p3 p4 p5 p6 p7 p8 pos : Pos}
end
structure ExcK (K : PySem.W.Frag) (C : Addr) : Prop where
  ga : PySem.W.findIn K (.ref C) "__getattribute__" = some (some (.builtin "BaseException.__getattribute__"))
  gk : PySem.W.findIn K (.ref C) "__getattr__" = some none
  hd : PySem.W.hasDictIn K C = true
  ca : PySem.W.findIn K (.ref C) "__class__" = some (some (.builtin "object.__class__"))
  sp : PySem.W.specialIn K (.builtin "object.__class__") "__get__" = some (some (.builtin "getset_descriptor.__get__"))
  tk : PySem.W.takesIn K (.builtin "object.__class__") = some true
  mro : PySem.W.mroIn K C (.type "object") = some true
  mrb : PySem.W.mroIn K C (.type "BaseException") = some true
end L2
set_option Elab.async false
set_option linter.all false
set_option maxRecDepth 100000
namespace L2
open PySem PySem.Spec PyProof.Rows
inductive PParts (X : Cx) : List Expr → List TE → Prop
  | nil : PParts X [] []
  | text {x : Str} {j p es ts} (hx : x.length ≤ 1000) (h : PParts X es ts) : PParts X (.Constant (.str x) j p :: es) ts
  | val {e : Expr} {p es ts} {t : TE} (he : PE X e t) (h : PParts X es ts) : PParts X (.FormattedValue e (-1) none p :: es) (t :: ts)
end L2
namespace VL
open PySem L2
open Classical
noncomputable section
variable [Tabs] {K : PySem.W.Frag}
variable {E : XK} {C : Addr}
inductive SemJ (K : PySem.W.Frag) : List TE → List DE → Prop
  | nil : SemJ K [] []
  | cons {t ts a as} (h : SemB K t a) (r : SemJ K ts as) : SemJ K (t :: ts) (a :: as)
theorem same_new {H : Hp} {a : Addr} {o : HO} (h : H a = none) : Same H (upd H a o) := fun b u e => by rw [upd_ne (ne_of_none e h)]; exact e
variable {iv ie : Nat}
end
end VL
set_option Elab.async false
set_option linter.all false
set_option maxRecDepth 100000
namespace VL
open PySem L2
open Classical
noncomputable section
variable [Tabs] {K : PySem.W.Frag} {fr : Fm}
def dMNil : Rho → Option (List (List D)) := fun _ => some []
theorem sm_nil : SemM K (tLst tNil) dMNil := fun {B Z os ρ σ H Q rows} f q k => by
  cases q
  exact ⟨Nat.zero_le _, fun p hp => k p [] _ (same_new hp) hp (fun _ z => nomatch z) (List.nodup_cons.mpr ⟨(fun z => by cases z), List.nodup_nil⟩) upd_same (Nat.zero_le _) .nil⟩
@[irreducible] def sAppM (i : Nat) (a : Rho → Option (List D)) : DS := fun ρ => match ρ.getD i .un with
  | .om rows => (match a ρ with
    | some ds => if rows.length < sizeLine then .nx (ρ.set i (.om (rows ++ [ds]))) else .no
    | none => .no)
  | _ => .no
theorem ss_appM {i : Nat} {ta : TE} {a : Rho → Option (List D)} (ha : SemF K ta a) : SemS fr K (tDrop (tBM K "list" rAppend (tVar i) (tCons ta tNil))) (sAppM i a) := fun {B Z os ρ σ H E} f p => by
  unfold sAppM at p
  split at p
  case h_2 => exact p.elim
  case h_1 rows e =>
    split at p
    case h_2 => exact p.elim
    case h_1 ds e1 =>
      by_cases hz : rows.length < sizeLine
      · rw [if_pos hz] at p
        obtain ⟨o, ps, eo, hu, hH, hl, hln, pr⟩ := om_of f e
        refine ⟨_, join_some hu, .inl ⟨rfl, _, SqL.of hH⟩, ha f e1 fun x vs H1 s1 hx hx1 hlv iv => ?_⟩
        have hi := getD_lt e (by intro z; cases z)
        have hn := f.nd i
        rw [eo] at hn
        have hxo : x ∉ o :: ps := fun z => by
          obtain ⟨xs, q⟩ := (f.sl i).dom (by rw [eo]; exact z)
          rw [hx] at q; cases q
        have hxo1 : o ≠ x := fun z => hxo (by rw [z]; exact List.mem_cons_self)
        have hoi : o ∈ os i := by rw [eo]; exact List.mem_cons_self
        have sub : ∀ c, tot Z (putO os i (o :: (ps ++ [x]))) c → c = x ∨ tot Z os c := by
          rintro c (z | ⟨j, z⟩)
          · exact .inr (.inl z)
          · by_cases hj : j = i
            · subst hj
              rw [putO_same] at z
              rcases List.mem_cons.mp z with z | z
              · exact .inr (.inr ⟨j, by rw [z]; exact hoi⟩)
              · rcases List.mem_append.mp z with z | z
                · exact .inr (.inr ⟨j, by rw [eo]; exact List.mem_cons_of_mem _ z⟩)
                · exact .inl (List.mem_singleton.mp z)
            · rw [putO_ne hj] at z; exact .inr (.inr ⟨j, z⟩)
        have kp : Kp (tot Z os) H (tot Z (putO os i (o :: (ps ++ [x])))) (upd H1 o (.lst ((ps ++ [x]).map V.ref))) := fun c u q z => by
          refine ⟨by rw [upd_ne (fun w => z (.inr ⟨i, by rw [w]; exact hoi⟩))]; exact s1 _ _ q, fun w => ?_⟩
          rcases sub c w with rfl | w
          · rw [hx] at q; cases q
          · exact z w
        have kpx : Kp (fun c => c = x ∨ tot Z os c) H1 (tot Z (putO os i (o :: (ps ++ [x])))) (upd H1 o (.lst ((ps ++ [x]).map V.ref))) := fun c u q z => by
          refine ⟨by rw [upd_ne (fun w => z (.inr (.inr ⟨i, by rw [w]; exact hoi⟩)))]; exact q, fun w => z (sub c w)⟩
        have hpo : ∀ q ∈ ps, o ≠ q := fun q hq z => (List.nodup_cons.mp hn).1 (by rw [z]; exact hq)
        have st := f.step (H' := upd H1 o (.lst ((ps ++ [x]).map V.ref))) (i := i) hi (o := o :: (ps ++ [x])) (s := .om (rows ++ [ds])) (v := some (.ref o)) (fun c u q nn => by rw [upd_ne (fun z => nn (by rw [z]; exact hoi))]; exact s1 _ _ q) (fun c hc => ?_)
          (List.nodup_cons.mpr ⟨fun z => ?_, ?_⟩) (fun c hc => ?_)
          ⟨o, ps ++ [x], rfl, rfl, upd_same, by rw [List.length_append, List.length_singleton]; omega, Paired.append (Paired.mono pr fun q ds' hq ⟨us, h1, h2, h3⟩ => ⟨us, by rw [upd_ne (Ne.symm (hpo q hq))]; exact s1 _ _ h1, h2, h3.kp kp⟩) (.cons ⟨vs, by rw [upd_ne (Ne.symm hxo1)]; exact hx1, hlv, iv.kp kpx⟩ .nil)⟩
        · rw [set_self hu] at st
          refine ⟨o, ps.map V.ref, .ref x, rfl, rfl, s1 _ _ hH, by rw [List.length_map, hln]; exact hz, ?_⟩
          have em : ps.map V.ref ++ [V.ref x] = (ps ++ [x]).map V.ref := by rw [List.map_append]; rfl
          rw [em]
          exact p _ _ _ st.1 st.2
        · by_cases hc' : c = o
          · rw [hc']; exact ⟨_, upd_same⟩
          · obtain ⟨xs, q⟩ := (f.sl i).dom hc
            exact ⟨_, by rw [upd_ne hc']; exact s1 _ _ q⟩
        · rcases List.mem_append.mp z with z | z
          · exact (List.nodup_cons.mp hn).1 z
          · exact hxo1 (List.mem_singleton.mp z)
        · exact List.nodup_append.mpr ⟨(List.nodup_cons.mp hn).2, List.nodup_cons.mpr ⟨(fun z => by cases z), List.nodup_nil⟩, fun a ha b hb z => by
            rw [List.mem_singleton.mp hb] at z
            exact hxo (List.mem_cons_of_mem _ (by rw [← z]; exact ha))⟩
        · rcases List.mem_cons.mp hc with z | z
          · exact .inl (by rw [z]; exact hoi)
          · rcases List.mem_append.mp z with z | z
            · exact .inl (by rw [eo]; exact List.mem_cons_of_mem _ z)
            · exact .inr (by rw [List.mem_singleton.mp z]; exact hx)
      · rw [if_neg hz] at p; exact p.elim
theorem Fr.forget {B H : Hp} {Z : Addr → Prop} {os : Own} {ρ : Rho} {σ : L2.St} (f : Fr K B Z os ρ σ H) {r : Nat} (hr : r < ρ.length) (v : Option V) : Fr K B Z (putO os r []) (ρ.set r .un) (σ.set r v) H ∧ Kp (tot Z os) H (tot Z (putO os r [])) H :=
  f.step hr (fun a u e _ => e) (fun a ha => let ⟨xs, e⟩ := (f.sl r).dom ha; ⟨_, e⟩) List.nodup_nil (fun a h => nomatch h) rfl
def Ag (is : List Nat) (σ σ' : L2.St) : Prop := σ'.length = σ.length ∧ ∀ j, j ∉ is → σ'[j]? = σ[j]?
theorem Ag.refl {is : List Nat} {σ : L2.St} : Ag is σ σ := ⟨rfl, fun _ _ => rfl⟩
theorem Ag.set {is : List Nat} {σ σ' : L2.St} {i : Nat} {v : Option V} (h : Ag is σ σ') (hi : i ∈ is) : Ag is σ (σ'.set i v) :=
  ⟨by rw [List.length_set]; exact h.1, fun j hj => by rw [List.getElem?_set_ne fun z => hj (by rw [← z]; exact hi)]; exact h.2 j hj⟩
theorem Ag.two {r n : Nat} {σ σ' : L2.St} (h : Ag [r, n] σ σ') : σ' = (σ.set r (σ'[r]?).join).set n (σ'[n]?).join := by
  refine List.ext_getElem? fun j => ?_
  by_cases hn : j = n
  · subst hn
    by_cases hl : j < σ.length
    · rw [List.getElem?_set_self (by rw [List.length_set]; exact hl), List.getElem?_eq_getElem (by rw [h.1]; exact hl)]; rfl
    · rw [List.getElem?_eq_none (by rw [h.1]; omega), List.getElem?_eq_none (by rw [List.length_set, List.length_set]; omega)]
  · rw [List.getElem?_set_ne (Ne.symm hn)]
    by_cases hr : j = r
    · subst hr
      by_cases hl : j < σ.length
      · rw [List.getElem?_set_self hl, List.getElem?_eq_getElem (by rw [h.1]; exact hl)]; rfl
      · rw [List.getElem?_eq_none (by rw [h.1]; omega), List.getElem?_eq_none (by rw [List.length_set]; omega)]
    · rw [List.getElem?_set_ne (Ne.symm hr)]
      exact h.2 j (by simp [hn, hr])
theorem wp_appM {i : Nat} {a : Rho → Option (List D)} {ρ : Rho} {rows : List (List D)} {ds : List D} {W : Wk} (h0 : ρ.getD i .un = .om rows) (h : a ρ = some ds) (hl : rows.length < sizeLine) (k : W.nx (ρ.set i (.om (rows ++ [ds])))) : Wp (sAppM i a) ρ W := by
  unfold Wp sAppM; rw [h0]; simp only [h, if_pos hl]; exact k
end
end VL
set_option Elab.async false
set_option linter.all false
set_option maxRecDepth 100000
namespace Srt
open PySem PySem.W PyProof.Rows
def KOk {α : Type} (lt : Nat → Nat → Bool) (n : Nat) : KasT α → (α → Prop) → Prop
  | .ret a, Q => Q a
  | .ask i j k, Q => i < n ∧ j < n ∧ KOk lt n (k (lt i j)) Q
section
variable {lt : Nat → Nat → Bool} {N : Nat}
theorem KOk.bind {α β : Type} {f : α → KasT β} {Q : β → Prop} : ∀ (t : KasT α), KOk lt N t (fun a => KOk lt N (f a) Q) → KOk lt N (t.bind f) Q
  | .ret _, h => h
  | .ask _ _ k, h => ⟨h.1, h.2.1, KOk.bind (k _) h.2.2⟩
theorem KOk.mono {α : Type} {Q Q' : α → Prop} (hq : ∀ a, Q a → Q' a) : ∀ (t : KasT α), KOk lt N t Q → KOk lt N t Q'
  | .ret a, h => hq a h
  | .ask _ _ k, h => ⟨h.1, h.2.1, KOk.mono hq (k _) h.2.2⟩
theorem KOk.wp {α : Type} {cmp : Nat → Nat → (Bool → Shared → Prop) → Shared → Prop} {s : Shared} (hc : ∀ i j (C : Bool → Shared → Prop), i < N → j < N → C (lt i j) s → cmp i j C s) {Q : α → Shared → Prop} :
    ∀ (t : KasT α), KOk lt N t (fun a => Q a s) → t.kasWp cmp Q s
  | .ret _, h => h
  | .ask i j k, h => hc i j _ h.1 h.2.1 (KOk.wp hc (k _) h.2.2)
structure Ord (lt : Nat → Nat → Bool) : Prop where
  tr : ∀ a b c, lt b a = false → lt c b = false → lt c a = false
  as : ∀ a b, lt a b = true → lt b a = false
abbrev g (p : Array Nat) (i : Nat) : Nat := p.getD i 0
def Up (lt : Nat → Nat → Bool) (p : Array Nat) (k : Nat) : Prop := ∀ i j, i ≤ j → j < k → lt (g p j) (g p i) = false
def Dn (lt : Nat → Nat → Bool) (p : Array Nat) (k : Nat) : Prop := ∀ i j, i ≤ j → j < k → lt (g p i) (g p j) = false
def Eqv (lt : Nat → Nat → Bool) (p : Array Nat) (a b : Nat) : Prop := ∀ i j, a ≤ i → i < b → a ≤ j → j < b → lt (g p i) (g p j) = false
def Lo (N : Nat) (p : Array Nat) : Prop := p.size = N ∧ ∀ i, g p i < N
theorem Lo.of_perm {p q : Array Nat} (h0 : 0 < N) (h : Lo N p) (hp : q.Perm p) : Lo N q := by
  refine ⟨hp.size_eq.trans h.1, fun i => ?_⟩
  unfold g
  by_cases c : i < q.size
  · have m : q[i] ∈ p := hp.mem_iff.mp (Array.getElem_mem c)
    obtain ⟨j, hj, e⟩ := Array.mem_iff_getElem.mp m
    have := h.2 j
    unfold g at this
    rw [Array.getD_eq_getD_getElem?, Array.getElem?_eq_getElem hj] at this
    rw [Array.getD_eq_getD_getElem?, Array.getElem?_eq_getElem c]
    show q[i] < N
    rw [← e]
    exact this
  · rw [Array.getD_eq_getD_getElem?, Array.getElem?_eq_none (by omega)]
    exact h0
theorem g_rev {p : Array Nat} {i j : Nat} (hj : j ≤ p.size) (k : Nat) : g (kas_rev p i j) k = if i ≤ k ∧ k < j then g p (i + j - 1 - k) else g p k := by
  unfold g kas_rev
  rw [Array.getD_eq_getD_getElem?, getElem?_mirror_all hj]
  by_cases c : i ≤ k ∧ k < j
  · rw [if_pos c, if_pos c, Array.getD_eq_getD_getElem?]
  · rw [if_neg c, if_neg c, Array.getD_eq_getD_getElem?]
theorem g_bub {p : Array Nat} {s d : Nat} (hs : s < p.size) (hd : d ≤ s) (k : Nat) : g (bubble p s d) k = if k = s - d then g p s else if s - d < k ∧ k ≤ s then g p (k - 1) else g p k := by
  unfold g
  rw [Array.getD_eq_getD_getElem?, getElem?_bubble hs d hd]
  by_cases c : k = s - d
  · rw [if_pos c, if_pos c, Array.getD_eq_getD_getElem?]
  · rw [if_neg c, if_neg c]
    by_cases c2 : s - d < k ∧ k ≤ s
    · rw [if_pos c2, if_pos c2, Array.getD_eq_getD_getElem?]
    · rw [if_neg c2, if_neg c2, Array.getD_eq_getD_getElem?]
theorem rev_perm {p : Array Nat} {i j : Nat} : (kas_rev p i j).Perm p := mirror_perm _ _ _ _
theorem irr (o : Ord lt) (a : Nat) : lt a a = false := by
  cases h : lt a a with
  | false => rfl
  | true => rw [o.as a a h] at h; cases h
theorem asc_ok (o : Ord lt) {p : Array Nat} (hp : Lo N p) : ∀ (f n : Nat), 1 ≤ n → Up lt p n → KOk lt N (kas_asc p f n) (fun m => n ≤ m ∧ m ≤ n + f ∧ Up lt p m ∧ (m < n + f → lt (g p m) (g p (m - 1)) = true))
  | 0, n, _, h => ⟨Nat.le_refl _, Nat.le_refl _, h, fun z => by omega⟩
  | f + 1, n, h1, h => by
    refine ⟨hp.2 n, hp.2 (n - 1), ?_⟩
    cases c : lt (p.getD n 0) (p.getD (n - 1) 0) with
    | true =>
      dsimp only
      rw [if_pos rfl]
      exact ⟨Nat.le_refl _, by omega, h, fun _ => c⟩
    | false =>
      dsimp only
      rw [if_neg Bool.false_ne_true]
      refine KOk.mono (fun m q => ⟨by omega, by omega, q.2.2.1, fun z => q.2.2.2 (by omega)⟩) _ (asc_ok o hp f (n + 1) (by omega) fun i j hij hj => ?_)
      by_cases e : j < n
      · exact h i j hij e
      · have : j = n := by omega
        subst this
        by_cases e2 : i = j
        · subst e2; exact irr o _
        · exact o.tr _ (g p (j - 1)) _ (h i (j - 1) (by omega) (by omega)) c
theorem desc_ok (o : Ord lt) (h0 : 0 < N) : ∀ (f : Nat) (p : Array Nat) (n q : Nat), Lo N p → 1 ≤ n → n + f ≤ N → q + 1 ≤ n → Dn lt p n → Eqv lt p (n - (q + 1)) n →
    KOk lt N (kas_desc f p n q) (fun r => r.1.Perm p ∧ Dn lt r.1 r.2.1 ∧ n ≤ r.2.1 ∧ r.2.1 ≤ n + f ∧ r.2.2 + 1 ≤ r.2.1 ∧ Eqv lt r.1 (r.2.1 - (r.2.2 + 1)) r.2.1)
  | 0, p, n, q, _, _, _, hq, hd, he => ⟨Array.Perm.refl _, hd, Nat.le_refl _, Nat.le_refl _, hq, he⟩
  | f + 1, p, n, q, hp, h1, hn, hq, hd, he => by
    refine ⟨hp.2 n, hp.2 (n - 1), ?_⟩
    cases c : lt (p.getD n 0) (p.getD (n - 1) 0) with
    | true =>
      dsimp only
      rw [if_pos rfl]
      by_cases hq0 : q > 0
      · rw [if_pos hq0]
        have hsz : n ≤ p.size := by rw [hp.1]; omega
        have gr : ∀ k, g (kas_rev p (n - (q + 1)) n) k = if n - (q + 1) ≤ k ∧ k < n then g p (n - (q + 1) + n - 1 - k) else g p k := g_rev hsz
        refine KOk.mono (fun r z => ⟨z.1.trans rev_perm, z.2.1, by omega, by omega, z.2.2.2.2.1, z.2.2.2.2.2⟩) _ (desc_ok o h0 f _ (n + 1) 0 (hp.of_perm h0 rev_perm) (by omega) (by omega) (by omega) (fun i j hij hj => ?_) fun i j hi1 hi2 hj1 hj2 => ?_)
        · rw [gr i, gr j]
          have key : ∀ k, k < n → lt (g p k) (g p n) = false := fun k hk => o.tr _ (g p (n - 1)) _ (o.as _ _ c) (hd k (n - 1) (by omega) (by omega))
          by_cases cj : n - (q + 1) ≤ j ∧ j < n
          · rw [if_pos cj]
            by_cases ci : n - (q + 1) ≤ i ∧ i < n
            · rw [if_pos ci]; exact he _ _ (by omega) (by omega) (by omega) (by omega)
            · rw [if_neg ci]; exact hd _ _ (by omega) (by omega)
          · rw [if_neg cj]
            by_cases ci : n - (q + 1) ≤ i ∧ i < n
            · rw [if_pos ci]
              have : j = n := by omega
              subst this
              exact key _ (by omega)
            · rw [if_neg ci]
              by_cases e : j = n
              · subst e
                by_cases e2 : i = j
                · subst e2; exact irr o _
                · exact key _ (by omega)
              · exact hd _ _ hij (by omega)
        · have e1 : i = n := by omega
          have e2 : j = n := by omega
          subst e1; subst e2
          exact irr o _
      · rw [if_neg hq0]
        refine KOk.mono (fun r z => ⟨z.1, z.2.1, by omega, by omega, z.2.2.2.2.1, z.2.2.2.2.2⟩) _ (desc_ok o h0 f p (n + 1) 0 hp (by omega) (by omega) (by omega) (fun i j hij hj => ?_) fun i j hi1 hi2 hj1 hj2 => ?_)
        · by_cases e : j = n
          · subst e
            by_cases e2 : i = j
            · subst e2; exact irr o _
            · exact o.tr _ (g p (j - 1)) _ (o.as _ _ c) (hd i (j - 1) (by omega) (by omega))
          · exact hd _ _ hij (by omega)
        · have e1 : i = n := by omega
          have e2 : j = n := by omega
          subst e1; subst e2
          exact irr o _
    | false =>
      dsimp only
      rw [if_neg Bool.false_ne_true]
      refine ⟨hp.2 (n - 1), hp.2 n, ?_⟩
      cases d : lt (p.getD (n - 1) 0) (p.getD n 0) with
      | true =>
        dsimp only
        rw [if_pos rfl]
        exact ⟨Array.Perm.refl _, hd, Nat.le_refl _, Nat.le_add_right _ _, hq, he⟩
      | false =>
        dsimp only
        rw [if_neg Bool.false_ne_true]
        have key : ∀ k, k < n → lt (g p k) (g p n) = false := fun k hk => o.tr _ (g p (n - 1)) _ d (hd k (n - 1) (by omega) (by omega))
        have key2 : ∀ k, n - (q + 1) ≤ k → k < n → lt (g p n) (g p k) = false := fun k hk1 hk2 => o.tr _ (g p (n - 1)) _ (he (n - 1) k (by omega) (by omega) hk1 hk2) c
        refine KOk.mono (fun r z => ⟨z.1, z.2.1, by omega, by omega, z.2.2.2.2.1, z.2.2.2.2.2⟩) _ (desc_ok o h0 f p (n + 1) (q + 1) hp (by omega) (by omega) (by omega) (fun i j hij hj => ?_) fun i j hi1 hi2 hj1 hj2 => ?_)
        · by_cases e : j = n
          · subst e
            by_cases e2 : i = j
            · subst e2; exact irr o _
            · exact key _ (by omega)
          · exact hd _ _ hij (by omega)
        · by_cases e : i = n
          · by_cases e2 : j = n
            · rw [e, e2]; exact irr o _
            · rw [e]; exact key2 _ (by omega) (by omega)
          · by_cases e2 : j = n
            · rw [e2]; exact key _ (by omega)
            · exact he _ _ (by omega) (by omega) (by omega) (by omega)
theorem tail_ok (o : Ord lt) (h0 : 0 < N) {p : Array Nat} {n nrem : Nat} (hp : Lo N p) (h1 : 1 ≤ n) (hn : n ≤ nrem) (hr : nrem ≤ N) (hd : Dn lt p n) :
    KOk lt N (kas_tail3 n nrem p) (fun r => r.2.Perm p ∧ Up lt r.2 r.1 ∧ 1 ≤ r.1 ∧ r.1 ≤ nrem) := by
  have gr : ∀ k, g (kas_rev p 0 n) k = if 0 ≤ k ∧ k < n then g p (0 + n - 1 - k) else g p k := g_rev (by rw [hp.1]; omega)
  refine KOk.bind _ (KOk.mono (fun m z => ?_) _ (asc_ok o (hp.of_perm h0 rev_perm) (nrem - n) n h1 fun i j hij hj => ?_))
  · exact ⟨rev_perm, z.2.2.1, by omega, by omega⟩
  · rw [gr i, gr j, if_pos (by omega), if_pos (by omega)]
    exact hd _ _ (by omega) (by omega)
theorem descPart_ok (o : Ord lt) (h0 : 0 < N) {p : Array Nat} {n nrem : Nat} (hp : Lo N p) (h1 : 1 ≤ n) (hn : n + 1 ≤ nrem) (hr : nrem ≤ N) (hd : Dn lt p (n + 1)) :
    KOk lt N (kas_descPart n nrem p) (fun r => r.2.Perm p ∧ Up lt r.2 r.1 ∧ 1 ≤ r.1 ∧ r.1 ≤ nrem) := by
  refine KOk.bind _ (KOk.mono (fun r z => ?_) _ (desc_ok o h0 (nrem - (n + 1)) p (n + 1) 0 hp (by omega) (by omega) (by omega) hd fun i j hi1 hi2 hj1 hj2 => ?_))
  · obtain ⟨z1, z2, z3, z4, z5, z6⟩ := z
    have hp1 := hp.of_perm h0 z1
    by_cases c : r.2.2 > 0
    · rw [if_pos c]
      have hsz : r.2.1 ≤ r.1.size := by rw [hp1.1]; omega
      have gr : ∀ k, g (kas_rev r.1 (r.2.1 - (r.2.2 + 1)) r.2.1) k = if r.2.1 - (r.2.2 + 1) ≤ k ∧ k < r.2.1 then g r.1 (r.2.1 - (r.2.2 + 1) + r.2.1 - 1 - k) else g r.1 k := g_rev hsz
      refine KOk.mono (fun t q => ⟨q.1.trans (rev_perm.trans z1), q.2⟩) _ (tail_ok o h0 (hp1.of_perm h0 rev_perm) (by omega) (by omega) hr fun i j hij hj => ?_)
      rw [gr i, gr j]
      by_cases cj : r.2.1 - (r.2.2 + 1) ≤ j ∧ j < r.2.1
      · rw [if_pos cj]
        by_cases ci : r.2.1 - (r.2.2 + 1) ≤ i ∧ i < r.2.1
        · rw [if_pos ci]; exact z6 _ _ (by omega) (by omega) (by omega) (by omega)
        · rw [if_neg ci]; exact z2 _ _ (by omega) (by omega)
      · rw [if_neg cj, if_neg (by omega)]; exact z2 _ _ hij (by omega)
    · rw [if_neg c]
      exact KOk.mono (fun t q => ⟨q.1.trans z1, q.2⟩) _ (tail_ok o h0 hp1 (by omega) (by omega) hr z2)
  · have e1 : i = n := by omega
    have e2 : j = n := by omega
    subst e1; subst e2
    exact irr o _
theorem count_ok (o : Ord lt) {p : Array Nat} (h0 : 0 < N) (hp : Lo N p) :
    KOk lt N (kas_count N p) (fun r => r.2.Perm p ∧ Up lt r.2 r.1 ∧ 1 ≤ r.1 ∧ r.1 ≤ N) := by
  refine KOk.bind _ (KOk.mono (fun n z => ?_) _ (asc_ok o hp (N - 1) 1 (Nat.le_refl _) fun i j hij hj => ?_))
  · obtain ⟨z1, z2, z3, z4⟩ := z
    by_cases c : (n == N) = true
    · rw [if_pos c]
      have := eq_of_beq c
      exact ⟨Array.Perm.refl _, z3, z1, by omega⟩
    · rw [if_neg c]
      have cn : n ≠ N := fun e => c (by rw [e]; exact beq_self_eq_true _)
      have z5 := z4 (by omega)
      by_cases c2 : n > 1
      · rw [if_pos c2]
        refine ⟨hp.2 0, hp.2 (n - 1), ?_⟩
        cases d : lt (p.getD 0 0) (p.getD (n - 1) 0) with
        | true =>
          dsimp only
          rw [if_pos rfl]
          exact ⟨Array.Perm.refl _, z3, z1, by omega⟩
        | false =>
          dsimp only
          rw [if_neg Bool.false_ne_true]
          have gr : ∀ k, g (kas_rev p 0 n) k = if 0 ≤ k ∧ k < n then g p (0 + n - 1 - k) else g p k := g_rev (by rw [hp.1]; omega)
          -- all of the first n are alike
          have eq : ∀ i j, i < n → j < n → lt (g p i) (g p j) = false := fun i j hi hj => by
            have a1 : lt (g p (n - 1)) (g p j) = false := z3 j (n - 1) (by omega) (by omega)
            have a2 : lt (g p i) (g p 0) = false := z3 0 i (by omega) hi
            exact o.tr _ (g p 0) _ (o.tr _ (g p (n - 1)) _ a1 d) a2
          refine KOk.mono (fun t q => ⟨q.1.trans rev_perm, q.2⟩) _ (descPart_ok o h0 (hp.of_perm h0 rev_perm) (by omega) (by omega) (Nat.le_refl _) fun i j hij hj => ?_)
          rw [gr i, gr j]
          by_cases cj : j < n
          · rw [if_pos (by omega), if_pos (by omega)]; exact eq _ _ (by omega) (by omega)
          · have : j = n := by omega
            subst this
            rw [if_neg (show ¬ (0 ≤ j ∧ j < j) by omega)]
            by_cases ci : i < j
            · rw [if_pos (by omega)]
              exact o.tr _ (g p (j - 1)) _ (o.as _ _ z5) (eq _ _ (by omega) (by omega))
            · have : i = j := by omega
              subst this
              rw [if_neg (by omega)]
              exact irr o _
      · rw [if_neg c2]
        refine descPart_ok o h0 hp (by omega) (by omega) (Nat.le_refl _) fun i j hij hj => ?_
        have n1 : n = 1 := by omega
        subst n1
        by_cases ci : i = j
        · subst ci; exact irr o _
        · have e1 : i = 0 := by omega
          have e2 : j = 1 := by omega
          subst e1; subst e2
          exact o.as _ _ z5
  · have e1 : i = j := by omega
    subst e1
    exact irr o _
theorem place_ok (o : Ord lt) {p : Array Nat} {k : Nat} (hp : Lo N p) (hu : Up lt p k) : ∀ (f l r : Nat), l ≤ r → r ≤ k → r - l ≤ f → (∀ i, i < l → lt (g p k) (g p i) = false) → (∀ i, r ≤ i → i < k → lt (g p k) (g p i) = true) →
    KOk lt N (kas_place p k f l r) (fun m => m ≤ k ∧ (∀ i, i < m → lt (g p k) (g p i) = false) ∧ ∀ i, m ≤ i → i < k → lt (g p k) (g p i) = true)
  | 0, l, r, h1, h2, h3, h4, h5 => ⟨by omega, h4, fun i hi => h5 i (by omega)⟩
  | f + 1, l, r, h1, h2, h3, h4, h5 => by
    unfold kas_place
    by_cases c : l ≥ r
    · rw [if_pos c]; exact ⟨by omega, h4, fun i hi => h5 i (by omega)⟩
    · rw [if_neg c]
      refine ⟨hp.2 k, hp.2 ((l + r) / 2), ?_⟩
      cases d : lt (p.getD k 0) (p.getD ((l + r) / 2) 0) with
      | true =>
        dsimp only
        rw [if_pos rfl]
        refine place_ok o hp hu f l ((l + r) / 2) (by omega) (by omega) (by omega) h4 fun i hi1 hi2 => ?_
        cases e : lt (g p k) (g p i) with
        | true => rfl
        | false =>
          have := o.tr _ (g p i) _ (hu ((l + r) / 2) i hi1 hi2) e
          rw [show lt (g p k) (g p ((l + r) / 2)) = true from d] at this
          cases this
      | false =>
        dsimp only
        rw [if_neg Bool.false_ne_true]
        exact place_ok o hp hu f ((l + r) / 2 + 1) r (by omega) h2 (by omega) (fun i hi => o.tr _ (g p ((l + r) / 2)) _ (hu i ((l + r) / 2) (by omega) (by omega)) d) h5
theorem bin_ok (o : Ord lt) (h0 : 0 < N) : ∀ (f : Nat) (p : Array Nat) (k : Nat), Lo N p → k + f = N → Up lt p k → KOk lt N (kas_bin f p k) (fun q => q.Perm p ∧ Up lt q N)
  | 0, p, k, _, hk, hu => ⟨Array.Perm.refl _, by rw [← hk]; exact hu⟩
  | f + 1, p, k, hp, hk, hu => by
    refine KOk.bind _ (KOk.mono (fun m z => ?_) _ (place_ok o hp hu k 0 k (Nat.zero_le _) (Nat.le_refl _) (by omega) (fun i hi => by omega) fun i hi1 hi2 => by omega))
    obtain ⟨z1, z2, z3⟩ := z
    have gb : ∀ j, g (bubble p k (k - m)) j = if j = k - (k - m) then g p k else if k - (k - m) < j ∧ j ≤ k then g p (j - 1) else g p j := g_bub (by rw [hp.1]; omega) (by omega)
    have em : k - (k - m) = m := by omega
    rw [em] at gb
    refine KOk.mono (fun q y => ⟨y.1.trans (bubble_perm _ _ _), y.2⟩) _ (bin_ok o h0 f _ (k + 1) (hp.of_perm h0 (bubble_perm _ _ _)) (by omega) fun i j hij hj => ?_)
    rw [gb i, gb j]
    by_cases cj : j = m
    · rw [if_pos cj]
      by_cases ci : i = m
      · rw [if_pos ci]; exact irr o _
      · rw [if_neg ci, if_neg (by omega)]; exact z2 i (by omega)
    · rw [if_neg cj]
      by_cases cj2 : m < j ∧ j ≤ k
      · rw [if_pos cj2]
        by_cases ci : i = m
        · rw [if_pos ci]; exact o.as _ _ (z3 (j - 1) (by omega) (by omega))
        · rw [if_neg ci]
          by_cases ci2 : m < i ∧ i ≤ k
          · rw [if_pos ci2]; exact hu _ _ (by omega) (by omega)
          · rw [if_neg ci2]; exact hu _ _ (by omega) (by omega)
      · rw [if_neg cj2]
        rw [if_neg (by omega), if_neg (by omega)]
        exact hu _ _ hij (by omega)
theorem sort_ok (o : Ord lt) (h0 : 0 < N) : KOk lt N (kas_sort N) (fun p => p.toList.Perm (List.range N) ∧ Up lt p N) := by
  have hp : Lo N (List.toArray (List.range N)) := by
    refine ⟨by simp, fun i => ?_⟩
    unfold g
    rw [Array.getD_eq_getD_getElem?]
    by_cases c : i < N
    · simp [c]
    · rw [Array.getElem?_eq_none (by simpa using c)]
      exact h0
  have done : ∀ q : Array Nat, q.Perm (List.toArray (List.range N)) → q.toList.Perm (List.range N) := fun q h => by
    have := Array.perm_iff_toList_perm.mp h
    simpa using this
  refine KOk.bind _ (KOk.mono (fun r z => ?_) _ (count_ok o h0 hp))
  obtain ⟨z1, z2, z3, z4⟩ := z
  by_cases c : r.1 < N
  · rw [if_pos c]
    have e : max r.1 1 = r.1 := by omega
    rw [e]
    exact KOk.mono (fun q y => ⟨done q (y.1.trans z1), y.2⟩) _ (bin_ok o h0 (N - r.1) r.2 r.1 (hp.of_perm h0 z1) (by omega) z2)
  · rw [if_neg c]
    have e : r.1 = N := by omega
    rw [e] at z2
    exact ⟨done _ z1, z2⟩
end
end Srt
set_option Elab.async false
set_option linter.all false
set_option maxRecDepth 100000
namespace L2
open PySem PySem.Spec PyProof.Rows
def lexLt : List Int → List Int → Bool
  | [], [] => false
  | [], _ :: _ => true
  | _ :: _, [] => false
  | x :: xs, y :: ys => if x = y then lexLt xs ys else decide (x < y)
theorem lex_as : ∀ a b : List Int, lexLt a b = true → lexLt b a = false
  | [], [], h => by cases h
  | [], _ :: _, _ => rfl
  | _ :: _, [], h => by cases h
  | x :: xs, y :: ys, h => by
    unfold lexLt at h ⊢
    by_cases c : x = y
    · subst c; rw [if_pos rfl] at h ⊢; exact lex_as xs ys h
    · rw [if_neg c] at h
      rw [if_neg (Ne.symm c)]
      have := of_decide_eq_true h
      exact decide_eq_false (by omega)
theorem lex_tr : ∀ a b c : List Int, lexLt b a = false → lexLt c b = false → lexLt c a = false
  | [], [], [], _, _ => rfl
  | [], [], _ :: _, _, _ => rfl
  | [], _ :: _, [], _, h => by cases h
  | [], _ :: _, _ :: _, _, _ => rfl
  | _ :: _, [], _, h, _ => by cases h
  | _ :: _, _ :: _, [], _, h => by cases h
  | x :: xs, y :: ys, z :: zs, h1, h2 => by
    unfold lexLt at h1 h2 ⊢
    by_cases c1 : y = x
    · subst c1
      rw [if_pos rfl] at h1
      by_cases c2 : z = y
      · subst c2; rw [if_pos rfl] at h2 ⊢; exact lex_tr xs ys zs h1 h2
      · rw [if_neg c2] at h2 ⊢; exact h2
    · rw [if_neg c1] at h1
      have k1 := of_decide_eq_false h1
      by_cases c2 : z = y
      · subst c2
        rw [if_neg c1]
        exact h1
      · rw [if_neg c2] at h2
        have k2 := of_decide_eq_false h2
        rw [if_neg (by omega)]
        exact decide_eq_false (by omega)
theorem lex_ord (f : Nat → List Int) : Srt.Ord fun i j => lexLt (f i) (f j) := ⟨fun a b c h1 h2 => lex_tr _ _ _ h1 h2, fun a b h => lex_as _ _ h⟩
theorem lex_eq : ∀ a b : List Int, lexLt a b = false → lexLt b a = false → a = b
  | [], [], _, _ => rfl
  | [], _ :: _, h, _ => by cases h
  | _ :: _, [], _, h => by cases h
  | x :: xs, y :: ys, h1, h2 => by
    unfold lexLt at h1 h2
    by_cases c : x = y
    · subst c; rw [if_pos rfl] at h1 h2; rw [lex_eq xs ys h1 h2]
    · rw [if_neg c] at h1
      rw [if_neg (Ne.symm c)] at h2
      have := of_decide_eq_false h1
      have := of_decide_eq_false h2
      omega
section
variable {X : Cx} {pins : List (Addr × Obj)} {σ : St} {H : Hp} {s : Shared}
theorem Inv.newsLaid {h' : Heap} {D : Addr} {o : Obj} {u : HO} {m : Str → Option Value} {t' : Nat} (I : Inv X pins σ H s) (hx : X.ex = []) (F : Fr X.base X.env.locals s.heap m) (F' : Fr X.base X.env.locals h' m)
    (N' : News X.base X.env.locals h' ((D, o) :: allNews X.base s.heap X.env.locals)) (hD : s.heap.get? D = none) (new : ObjOk X.prog X.w (upd H D u) h' D u) : Inv X pins σ (upd H D u) { s with heap := h', toks := t' } := by
  have keep : ∀ b v, b ≠ X.env.locals → s.heap.get? b = some v → h'.get? b = some v := fun b v hb q => by
    cases e : X.base.get? b with
    | some y =>
      have e1 := F.keep b y e
      rw [q] at e1
      cases e1
      exact F'.keep b v e
    | none => exact (N' (b, v) (List.mem_cons_of_mem _ (mem_allNews hb e q))).1
  obtain ⟨oL, es, ep, hL, rL⟩ := F.ns
  have nL : ∀ b w, H b = some w → b ≠ X.env.locals := fun b w q z => by rw [z, I.free] at q; cases q
  have I1 : Inv X pins σ H { s with heap := h', gens := s.gens, drawn := s.drawn, toks := t' } := by
    refine I.step (ch := []) (fun _ z => nomatch z) (fun b v h1 _ _ q _ => keep b v h1 q) (fun b v h1 _ _ q _ => ⟨v.slots, keep b v h1 q⟩) (fun _ _ _ _ n => n) (fun b v _ q => ?_) (fun _ _ q => q) (fun _ _ _ q => q) (fun b ps q => ⟨#[], by rw [q]; simp⟩) (fun m' hm => ?_) (fun b w q => ?_) I.bare
    · by_cases hb : b = X.env.locals
      · subst hb
        obtain ⟨o2, _, _, h2, _⟩ := F'.ns
        exact ⟨o2, h2⟩
      · exact ⟨v, keep b v hb q⟩
    · have e1 := hm.eq_nsMap
      have e2 := F.ns.eq_nsMap
      rw [e1, ← e2]
      exact F'.ns
    · refine (I.hok b w q).stay (fun c y hc r => keep c y ?_ r) (fun _ r => r) fun _ _ r => r
      rcases hc with rfl | hc
      · exact nL _ _ q
      · exact nL _ _ hc
  exact I1.track (I.out hx hD) new
end
def TupZ (H : Hp) (ps : List Addr) (zs : List (List Int)) : Prop := Paired (fun p z => z ≠ [] ∧ H p = some (.tup (z.map V.int))) ps zs
theorem ints_lex {prog : Program} {w : World} {A : Around} {Q : Bool → Shared → Prop} {s : Shared} : ∀ {x y : List Int} {us vs : List Value} (i : Nat), IntsAre us x → IntsAre vs y → Q (lexLt x y) s → PySem.W.KatLex prog w A true (decide (x.length < y.length)) Q (us.zip vs) i s
  | [], [], _, _, _, .nil, .nil, h => PySem.W.kat_nil h
  | [], _ :: _, _, _, _, .nil, .cons _ _ _, h => PySem.W.kat_nil h
  | _ :: _, [], _, _, _, .cons _ _ _, .nil, h => PySem.W.kat_nil h
  | x :: xs, y :: ys, _, _, i, .cons _ t r1, .cons _ u r2, h => by
    refine PySem.W.kat_cons (wpAny_eqBool_int ?_)
    unfold lexLt at h
    have el : decide ((x :: xs).length < (y :: ys).length) = decide (xs.length < ys.length) := by rw [List.length_cons, List.length_cons]; congr 1; apply propext; omega
    by_cases c : x = y
    · subst c
      rw [if_pos rfl] at h
      rw [beq_self_eq_true, el]
      exact PySem.W.kat_yes (ints_lex (i + 1) r1 r2 h)
    · rw [if_neg c] at h
      have e : (x == y) = false := by simp [c]
      rw [e]
      refine PySem.W.kat_no ?_
      cases i with
      | zero => exact oneLt_int h
      | succ i => exact PySem.W.kat_one _ _ (PyProof.Rows.lt_int h)
theorem tup_items {X : Cx} {pins : List (Addr × Obj)} {σ : St} {H : Hp} {s : Shared} (I : Inv X pins σ H s) {p : Addr} {z : List Int} (h : H p = some (.tup (z.map V.int))) : ∃ (o : Obj) (us : List Value) (n : Nat), s.heap.get? p = some o ∧ o.cls = .type "tuple" ∧ o.data = .seq us.toArray n ∧ IntsAre us z := by
  obtain ⟨_, its, rv, o, h1, h2, n, h3⟩ := (show ObjOk X.prog X.w H s.heap p (.tup (z.map V.int)) from I.hok p _ h)
  exact ⟨o, its, n, h1, h2, h3, intsAre_of rv⟩
theorem refs_of {ps : List Addr} : ∀ {us : List Value}, Vals (ps.map V.ref) us → us = ps.map Value.ref := by
  induction ps with
  | nil => intro us r; cases r; rfl
  | cons p ps ih => intro us r; cases r with | cons h r => cases (show _ = Value.ref p from h); rw [ih r]; rfl
theorem vals_refs : ∀ ps : List Addr, Vals (ps.map V.ref) (ps.map Value.ref)
  | [] => .nil
  | _ :: ps => .cons rfl (vals_refs ps)
theorem kat_tups {h : Heap} : ∀ {ps : List Addr}, (∀ p ∈ ps, ∃ (o : Obj) (us : List Value) (n : Nat) (x : Int) (t : Tok) (r : List Value), h.get? p = some o ∧ o.cls = .type "tuple" ∧ o.data = .seq us.toArray n ∧ us = .int x t :: r) → ∃ fs, PySem.W.KatTups h (ps.map Value.ref) fs ∧ fs.length = ps.length ∧ ∀ f ∈ fs, ∃ (x : Int) (t : Tok), f = .int x t
  | [], _ => ⟨[], .nil, rfl, fun _ z => nomatch z⟩
  | p :: ps, hp => by
    obtain ⟨fs, k, hl, hf⟩ := kat_tups (ps := ps) fun q hq => hp q (List.mem_cons_of_mem _ hq)
    obtain ⟨o, us, n, x, t, r, h1, h2, h3, rfl⟩ := hp p List.mem_cons_self
    refine ⟨.int x t :: fs, .cons h1 h2 h3 (by simp) k, by simp [hl], fun f hm => ?_⟩
    rcases List.mem_cons.mp hm with rfl | hm
    · exact ⟨x, t, rfl⟩
    · exact hf f hm
section
open PySem.W
variable {prog : Program} {w : World} {A : Around} {E : Value → Shared → Prop} {s : Shared} {a : Addr} {n : Nat} {vs : List Value}
theorem sort_few {P : PySem.Fin → Shared → Prop} (hn : vs.length < 2) (ho : s.heap.get? a = some (seqObj "list" vs.toArray n))
    (k : ∀ h' c, (∀ b o, b ≠ a → s.heap.get? b = some o → h'.get? b = some o) → h'.get? a = some (seqObj "list" vs.toArray c) → P (.done (.ret .none)) { s with heap := h' }) :
    wpAny (model prog w) A (Builtin.«list.sort» ⟨[.ref a], []⟩) P E s := by
  have z : sizeLine = 16777216 := sizeLine_eq
  have lt : a < s.heap.objs.size := Heap.lt_size ho
  obtain ⟨e, o1⟩ : ∃ e, (s.heap.update a (Obj.mapSeq fun _ => (#[] : Array Value))).get? a = some (seqObj "list" #[] e) := ⟨_, get?_update_seq ho fun _ => #[]⟩
  rw [list_sort_plain]
  refine wpAny_bind (listItems_at ho rfl (wpAny_bind (listUpdate_at ho rfl (wpAny_bind (seqEpoch_at o1 rfl (wpAny_bind (wpAny_newTuple (wpAny_bind (wpAny_newList (wpAny_holding ?_) (Nat.zero_le _))) (by show vs.length ≤ _; omega))))) (by rw [List.size_toArray]; omega) (Nat.zero_le _))))
  dsimp only
  rw [if_pos (show vs.toArray.size < 2 by rw [List.size_toArray]; omega), if_pos (show vs.toArray.size < 2 by rw [List.size_toArray]; omega)]
  have o2 : (((s.heap.update a (Obj.mapSeq fun x => #[])).push { cls := Value.type "tuple", data := Data.seq vs.toArray }).push { cls := Value.type "list", data := Data.seq #[] }).get? a = some (seqObj "list" #[] e) := Heap.get?_push_of_some _ (Heap.get?_push_of_some _ o1)
  refine wpAny_bind (wpAny_pure (wpAny_bind (m := StateT.run (pure ()) _) (wpAny_pure (wpAny_bind (seqEpoch_at o2 rfl ?_)))))
  have em : Array.map (fun x => x.snd) (arrOf (SortSt.mk' general' (vs.toArray.zip vs.toArray) #[] 7 none)) = vs.toArray := by
    show Array.map (fun x => x.snd) (vs.toArray.zip vs.toArray) = vs.toArray
    apply Array.toList_inj.mp
    rw [Array.toList_map, Array.toList_zip, List.map_snd_zip]
    exact Nat.le_refl _
  refine wpAny_bind (listUpdate_at o2 rfl ?_ (Nat.zero_le _) (by rw [em, List.size_toArray]; omega))
  show wpAny _ _ (if (e != e) = true then _ else _) _ _ _
  rw [bne_self_eq_false, if_neg Bool.false_ne_true]
  rw [em]
  obtain ⟨c, o3⟩ : ∃ c, ((((s.heap.update a (Obj.mapSeq fun x => #[])).push { cls := Value.type "tuple", data := Data.seq vs.toArray }).push { cls := Value.type "list", data := Data.seq #[] }).update a (Obj.mapSeq fun _ => vs.toArray)).get? a = some (seqObj "list" vs.toArray c) := ⟨_, get?_update_seq o2 fun _ => vs.toArray⟩
  refine wpAny_pure (k _ c (fun b o hb q => ?_) o3)
  rw [Heap.get?_update_other _ _ (Ne.symm hb)]
  exact Heap.get?_push_of_some _ (Heap.get?_push_of_some _ (by rw [Heap.get?_update_other _ _ (Ne.symm hb)]; exact q))
theorem sorted_few {l : Addr} {Q : Value → Shared → Prop} (hl : s.heap.IsList l vs.toArray) (hn : vs.length < 2)
    (k : ∀ h' D c, s.heap.objs.size ≤ D → (∀ b o, s.heap.get? b = some o → h'.get? b = some o) → h'.get? D = some (seqObj "list" vs.toArray c) → Q (.ref D) { s with heap := h' }) :
    wpAny (model prog w) A (call (.builtin "sorted") [.ref l]) Q E s := by
  have z : sizeLine = 16777216 := sizeLine_eq
  refine Calls.call_function_entry kind_sorted plain_sorted entry_sorted (args_sorted1 _) ?_
  unfold Builtin.«sorted»
  refine wpAny_bind (m := checkCount "sorted" 1 1 _) (wpAny_pure (wpAny_bind (collect_list hl (wpAny_bind (wpAny_newList ?_ (by omega))) (by omega))))
  generalize hg : (s.heap.push (seqObj "list" #[] 0)).update s.heap.objs.size (Obj.mapSeq fun x => x ++ vs.toArray) = g
  have gs : g.objs.size = s.heap.objs.size + 1 := by rw [← hg, Heap.size_update, size_push']
  have kg : ∀ b o, s.heap.get? b = some o → g.get? b = some o := fun b o q => by
    have hb : b < s.heap.objs.size := Heap.lt_size q
    rw [← hg, Heap.get?_update_other _ _ (Nat.ne_of_gt hb)]
    exact Heap.get?_push_of_some _ q
  have oD : (g.push (seqObj "list" vs.toArray 0)).get? g.objs.size = some (seqObj "list" vs.toArray 0) := Heap.get?_push_size g rfl
  dsimp only
  refine wpAny_bind (wpAny_holding (wpAny_call_entry slot_list_sort ⟨_, oD, rfl⟩ entry_list_sort (sort_few (s := { s with heap := g.push (seqObj "list" vs.toArray 0) }) hn oD fun h' c kp hD => ?_) (args_list_sort _)))
  refine ⟨_, rfl, wpAny_pure ⟨_, rfl, k h' g.objs.size c (by omega) (fun b o q => kp b o (Nat.ne_of_lt (by rw [gs]; exact Nat.lt_succ_of_lt (Heap.lt_size q))) (Heap.get?_push_of_some _ (kg b o q))) hD⟩⟩
end
theorem call_sort01 {X : Cx} {K : PySem.W.Frag} (hK : X.K = K) : CallR X (.builtin "sorted") (fun xs H Q => ∃ a vs, xs = [.ref a] ∧ SqL K H a vs ∧ vs.length < 2 ∧ ∀ D, H D = none → Q (.ref D) (upd H D (.lst vs))) := by
  subst hK
  intro pins s σ H xs us Q I r h
  obtain ⟨a, vs, rfl, hq, hn, q⟩ := h
  cases r with
  | cons r1 r =>
    cases r
    cases (show _ = Value.ref a from r1)
    obtain ⟨its, rv, pl, hz⟩ := I.list hq
    refine sorted_few pl.isList (by rw [← rv.length]; exact hn) fun h' D c hD kp oD => ?_
    exact ⟨.ref D, upd H D (.lst vs), I.laid (t' := s.toks) kp hD ⟨hz, its, c, rv, oD⟩, rfl, q D (I.hok.fresh hD)⟩
end L2
set_option Elab.async false
set_option linter.all false
set_option maxRecDepth 100000
namespace L2
open PySem PySem.Spec PyProof.Rows
def srtZ (zs : List (List Int)) : List (List Int) := zs.mergeSort fun a b => !lexLt b a
theorem srtZ_perm (zs : List (List Int)) : (srtZ zs).Perm zs := List.mergeSort_perm _ _
theorem srtZ_up (zs : List (List Int)) : (srtZ zs).Pairwise fun a b => lexLt b a = false := by
  have h := List.pairwise_mergeSort (le := fun a b => !lexLt b a) (fun a b c h1 h2 => by
    rw [Bool.not_eq_true'] at h1 h2 ⊢
    exact lex_tr _ _ _ h1 h2) (fun a b => by
    cases e : lexLt b a with
    | false => rfl
    | true => simp [lex_as _ _ e]) zs
  exact h.imp fun h => by simpa using h
theorem srtZ_uniq {xs zs : List (List Int)} (p : xs.Perm zs) (h : xs.Pairwise fun a b => lexLt b a = false) : xs = srtZ zs :=
  List.Perm.eq_of_pairwise (fun a b _ _ h1 h2 => lex_eq a b h2 h1) h (srtZ_up zs) (p.trans (srtZ_perm zs).symm)
def rSort1 (K : PySem.W.Frag) : List V → Hp → VK → Prop := fun xs H Q => ∃ a vs, xs = [.ref a] ∧ SqL K H a vs ∧ vs.length < 2 ∧ ∀ D, H D = none → Q (.ref D) (upd H D (.lst vs))
end L2
namespace VL
open PySem L2
open Classical
noncomputable section
variable [Tabs] {K : PySem.W.Frag}
def tupD (z : List Int) : D := .tup (z.map D.int)
theorem mapInt_inj : ∀ {a b : List Int}, a.map D.int = b.map D.int → a = b
  | [], [], _ => rfl
  | [], _ :: _, h => by cases h
  | _ :: _, [], h => by cases h
  | x :: a, y :: b, h => by
    injection h with h1 h2
    injection h1 with h1
    rw [h1, mapInt_inj h2]
theorem tupD_inj (a b : List Int) (h : tupD a = tupD b) : a = b := by
  unfold tupD at h
  injection h with h
  exact mapInt_inj h
theorem range_getD (zs : List (List Int)) : (List.range zs.length).map (fun i => zs.getD i []) = zs := by
  refine List.ext_getElem (by simp) fun i h1 h2 => ?_
  simp [h2]
def t3 (z : Int × Int × Int) : D := .tup [.int z.1, .int z.2.1, .int z.2.2]
end
end VL
set_option Elab.async false
set_option linter.all false
set_option maxRecDepth 100000
namespace L2
open PySem PySem.Spec PyProof.Rows
section
variable {M : Model} {A : Around} {E : Value → Shared → Prop} {s : Shared} {base : Heap} {env : Env} {outer : List Env} {L e T : Addr} {cls fl : Value} {Q : Unit → Shared → Prop}
end
section
variable {X : Cx} {pins : List (Addr × Obj)} {σ : St} {H : Hp} {s s' : Shared} {E : XK} {e : Value}
end
section
variable {prog : Program} {w : World} {A : Around} {R : Result → Shared → Prop} {s : Shared}
end
section
variable {X : Cx} {tg elt iter : Expr} {scope : Scope} {cl : List (Str × Addr)} {N' : List Str} {σ0 : St → St} {g : TG} {te : TE} {E : XK}
variable {pos : Pos} {wi : TI} {ts zs : List Str} {is : List Nat} {k : Nat}
end
end L2
namespace VL
open PySem L2
open Classical
noncomputable section
variable [Tabs] {K : PySem.W.Frag} {E : XK} {C : Addr}
end
end VL
set_option Elab.async false
set_option linter.all false
set_option maxRecDepth 100000
namespace L2
open PySem PySem.Spec PyProof.Rows
theorem trip_snoc {a b : Int} {t u : Tok} {c : Value} (l : List Value) (h : TriplesOk l) : TriplesOk (l ++ [.int a t, .int b u, c]) := by
  fun_induction TriplesOk l with
  | case1 => trivial
  | case2 x t y u z rest ih => exact ih h
  | case3 => exact h.elim
theorem among_snoc {pos : Pos} {a b : Int} {t u : Tok} {c v : Value} (l : List Value) (h : TriplesOk l) (e : codeAmong pos (l ++ [.int a t, .int b u, c]) = some v) : codeAmong pos l = some v ∨ v = c := by
  fun_induction TriplesOk l with
  | case1 =>
    simp only [List.nil_append, codeAmong] at e
    split at e
    · cases e; exact .inr rfl
    · cases e
  | case2 x t y u z rest ih =>
    simp only [List.cons_append, codeAmong] at e ⊢
    split at e
    · rename_i q; rw [if_pos q]; exact .inl e
    · rename_i q; rw [if_neg q]; exact ih h e
  | case3 => exact h.elim
def BmOk (mg : Str → Option Value) (base : Heap) : Prop := ∃ bm ob, mg "__builtins__" = some (.ref bm) ∧ bm ≠ builtinsNs ∧ base.get? bm = some ob ∧ ob.cls = .type "module" ∧ ob.dict = some builtinsNs ∧ ob.data = .plain
structure LamOk (X : Cx) (c P : Addr) : Prop where
  code : X.env.code = .ref c
  hd : PySem.W.codeHdIn X.K c P = true
  bm : BmOk X.mg X.base
abbrev lamObj (q : Str) (params : Arguments) (body : Expr) (scope : Scope) (cl : List (Str × Addr)) (mg : Str → Option Value) (c : Addr) (ct : Value) : Obj := PySem.W.kla_obj "<lambda>" q params body scope cl ((mg "__name__").getD .none) c ct
def LamIs (mg : Str → Option Value) (H : Hp) (q : Str) (params : Arguments) (body : Expr) (scope : Scope) (cl : List (Str × Addr)) (o : Obj) : Prop :=
  ∃ c ct oc u vs t, o = lamObj q params body scope cl mg c ct ∧ H c = some (.frz oc u) ∧ oc.data = .fields vs ∧ vs[1]? = some (.str q t)
theorem lam_make {X : Cx} {pins : List (Addr × Obj)} {σ : St} {H : Hp} {s : Shared} {c P : Addr} {ps : Array Value} {q : Str} {t : Tok} {params : Arguments} {body : Expr} {scope : Scope} {pos : Pos} {cl : List (Str × Addr)} (lo : LamOk X c P) (I : Inv X pins σ H s)
    (hP : H P = some (.tbl ps)) (h0 : ps[0]? = some (.str q t)) (hq : X.env.qual ++ "<lambda>" = q) (hcl : closureFor scope X.env = pure cl) (hdef : defaultsOf params X.env = ([], [])) :
    wpAny (model X.prog X.w) X.A (eval (.Lambda params body scope pos) X.env) (fun v s' => ∃ f o H', v = .ref f ∧ Inv X (pins ++ [(f, o)]) σ H' s' ∧ (∀ b u, H b = some u → H' b = some u) ∧ (∀ p ∈ X.pn ++ pins, p.1 ≠ f) ∧ X.s₀.heap.objs.size ≤ f ∧ LamIs X.mg H' q params body scope cl o) X.xe s := by
  refine PySem.W.kla_eval hdef ?_
  obtain ⟨q', t', qs, e0, e1, e2, e3⟩ := (show ObjOk X.prog X.w H s.heap P (.tbl ps) from I.hok P _ hP)
  rw [h0] at e0
  cases e0
  have hg : s.heap.Ns mainGlobals X.mg := I.mod.glob.keeps I.bk
  have hgP : mainGlobals ≠ P := fun z => by
    obtain ⟨o, es, ep, e, _⟩ := I.mod.glob
    have := (I.bs _ _ e).2
    rw [z, hP] at this; cases this
  obtain ⟨bm, ob, b1, b2, b3, b4, b5, b6⟩ := lo.bm
  have nG : bm ≠ mainGlobals := fun z => by
    obtain ⟨o, es, ep, e, hd, _⟩ := I.mod.glob
    rw [z, e] at b3; cases b3; rw [hd] at b6; cases b6
  have nB : bm ≠ P := fun z => by
    have := (I.bs _ _ b3).2
    rw [z, hP] at this; cases this
  have hb : s.heap.BuiltinsAt X.mg P := ⟨bm, ob, b1, b2, nG, nB, I.bk _ _ b3, b4, b5, b6⟩
  have C := (PySem.W.codeHd_of_K I.mod.kin lo.hd).keeps I.bk
  have Ls : X.env.locals < s.heap.objs.size := I.lt
  have fsl : ∀ b ∈ X.fs, b < s.heap.objs.size := fun b hb => by
    obtain ⟨_, o, ho, _⟩ := I.ok.funs.mem hb
    exact Nat.lt_of_lt_of_le (Heap.lt_size ho) I.sz
  rw [hq]
  cases hf : codeAmong pos qs.toList with
  | none =>
    refine PySem.W.kla_makeFunction (mg := X.mg) hcl I.ok.glob hg lo.code C e1 e2 hf hgP hb fun c' ctv h' tk hx hge hlt hrec htb => ?_
    have hc : H c' = none := I.hok.fresh hge
    have hcP : c' ≠ P := fun z => by rw [z, hP] at hc; cases hc
    have ge : s.heap.objs.size ≤ h'.objs.size := Nat.le_trans hge (Nat.le_of_lt hlt)
    have kp : ∀ b u, b ≠ P → s.heap.get? b = some u → (h'.push (lamObj q params body scope cl X.mg c' ctv)).get? b = some u := fun b u hb e => Heap.get?_push_of_some _ (hx b u hb e)
    have nP : ∀ b, H b = none → b ≠ P := fun b e z => by rw [z, hP] at e; cases e
    obtain ⟨c2, oc, vs, t2, z1, z2, z3, z4⟩ := hrec
    cases z1
    have up : ∀ b u, H b = some u → upd H c' (.frz oc (.own P)) b = some u := fun b u e => by rw [upd_ne (ne_of_none e hc)]; exact e
    have I1 : Inv X pins σ (upd H c' (.frz oc (.own P))) { s with heap := h'.push (lamObj q params body scope cl X.mg c' ctv), gens := s.gens, drawn := s.drawn, toks := tk } := by
      refine I.step (ch := []) (fun _ z => nomatch z) (fun b o _ _ _ e n => kp b o (nP b n) e) (fun b o _ _ _ e n => ⟨o.slots, kp b o (nP b n) e⟩) (fun b o _ e n => ?_) (fun b o _ e => ?_) (fun b xs e => up _ _ e) (fun b o u e => up _ _ e) (fun b ps' e => ⟨#[], by rw [up _ _ e]; simp⟩) (fun m hm => ?_) (fun b u e => ?_) I.bare
      · rw [upd_ne (Nat.ne_of_lt (Nat.lt_of_lt_of_le (Heap.lt_size e) hge))]; exact n
      · by_cases z : b = P
        · subst z; exact ⟨_, Heap.get?_push_of_some _ htb⟩
        · exact ⟨o, kp b o z e⟩
      · exact (hm.extBut hx fun z => by have := I.free; rw [z, hP] at this; cases this).push _
      · by_cases z : b = c'
        · subst z
          rw [upd_same] at e
          cases e
          exact ⟨Heap.get?_push_of_some _ z2, oc, Heap.get?_push_of_some _ z2⟩
        · rw [upd_ne z] at e
          by_cases z2 : b = P
          · subst z2
            rw [hP] at e
            cases e
            refine ⟨q, t, qs ++ #[rawInt pos.line, rawInt pos.col, .ref c'], h0, Heap.get?_push_of_some _ htb, ?_, fun pos' v ev => ?_⟩
            · rw [Array.toList_append]; exact trip_snoc _ e2
            · rw [Array.toList_append] at ev
              rcases among_snoc _ e2 ev with ev | rfl
              · obtain ⟨c3, o, u, vs, t2, y1, y2, y3⟩ := e3 pos' v ev
                exact ⟨c3, o, u, vs, t2, y1, up _ _ y2, y3⟩
              · exact ⟨c', oc, _, vs, t2, rfl, upd_same, z3, z4⟩
          · refine (I.hok b u e).stay (fun x v hxv ex => kp x v ?_ ex) (fun x ex => up _ _ ex) (fun x xs ex => up _ _ ex) fun x o u ex => up _ _ ex
            rcases hxv with rfl | hxv
            · exact z2
            · exact fun w => by rw [w, hP] at hxv; cases hxv
    have fz : ∀ b o, s.heap.get? b = some o → b ≠ h'.objs.size := fun b o e => Nat.ne_of_lt (Nat.lt_of_lt_of_le (Heap.lt_size e) ge)
    refine ⟨h'.objs.size, lamObj q params body scope cl X.mg c' ctv, upd H c' (.frz oc (.own P)), rfl, I1.pins_of fun p hp => ?_, up, fun p hp z => ?_, Nat.le_trans I.sz ge, c', ctv, oc, .own P, vs, t2, rfl, upd_same, z3, z4⟩
    · rcases List.mem_append.mp hp with hp | hp
      · exact I1.pin p (List.mem_append_right _ hp)
      · cases List.mem_singleton.mp hp
        refine ⟨Heap.get?_push_size _ rfl, ?_, Nat.ne_of_gt (Nat.lt_of_lt_of_le Ls ge), fun z => absurd (Nat.lt_of_lt_of_le (fsl _ z) ge) (Nat.lt_irrefl _), fun v z => by cases z⟩
        show upd H c' (.frz oc (.own P)) h'.objs.size = none
        rw [upd_ne (Nat.ne_of_gt hlt)]
        exact I.hok.fresh ge
    · exact fz _ _ (I.pin p hp).1 z
  | some cv =>
    obtain ⟨c', oc, u, vs, t2, rfl, hown, z3, z4⟩ := e3 pos cv hf
    refine PySem.W.kla_makeFunctionHit (mg := X.mg) hcl I.ok.glob hg lo.code C e1 e2 hf hb fun ctv h' tk hk hsz => ?_
    have kp : ∀ b u, s.heap.get? b = some u → (h'.push (lamObj q params body scope cl X.mg c' ctv)).get? b = some u := fun b u e => Heap.get?_push_of_some _ (hk b u e)
    have I1 : Inv X pins σ H { s with heap := h'.push (lamObj q params body scope cl X.mg c' ctv), toks := tk } := I.kept kp
    refine ⟨h'.objs.size, lamObj q params body scope cl X.mg c' ctv, H, rfl, I1.pins_of fun p hp => ?_, fun _ _ e => e, fun p hp z => ?_, Nat.le_trans I.sz hsz, c', ctv, oc, u, vs, t2, rfl, hown, z3, z4⟩
    · rcases List.mem_append.mp hp with hp | hp
      · exact I1.pin p (List.mem_append_right _ hp)
      · cases List.mem_singleton.mp hp
        exact ⟨Heap.get?_push_size _ rfl, I.hok.fresh hsz, Nat.ne_of_gt (Nat.lt_of_lt_of_le Ls hsz), fun z => absurd (Nat.lt_of_lt_of_le (fsl _ z) hsz) (Nat.lt_irrefl _), fun v z => by cases z⟩
    · exact absurd z (Nat.ne_of_lt (Nat.lt_of_lt_of_le (Heap.lt_size (I.pin p hp).1) hsz))
structure LFrees (X : Cx) (x : Str) (zs : List Str) (is : List Nat) (scope : Scope) (cl : List (Str × Addr)) : Prop where
  par : scope.names.lookup x = some .local
  sub : ∀ y c, cl.lookup y = some c → X.env.cells.lookup y = some c
  cap : ∀ (j : Nat) (z : Str), zs[j]? = some z → ∃ i c, is[j]? = some i ∧ X.N[i]? = some z ∧ (X.env.scope.names.lookup z = some .cell ∨ X.env.scope.names.lookup z = some .free) ∧ cl.lookup z = some c ∧ scope.names.lookup z = some .free
  has : ∀ y, (scope.names.lookup y = some .cell ∨ scope.names.lookup y = some .free) → ∃ c, cl.lookup y = some c
  len : is.length = zs.length
  nocell : ∀ y ∈ scope.names, y.2 ≠ .cell
  kind : scope.kind = .function
  co : scope.isCoroutine = false
  gen : scope.isGenerator = false
inductive LapL (X : Cx) (scope : Scope) (cl : List (Str × Addr)) : List Nat → List Str → Prop
  | nil : LapL X scope cl [] []
  | cons {i : Nat} {z : Str} {c : Addr} {is : List Nat} {zs : List Str} : X.N[i]? = some z → (X.env.scope.names.lookup z = some .cell ∨ X.env.scope.names.lookup z = some .free) → cl.lookup z = some c → scope.names.lookup z = some .free → LapL X scope cl is zs → LapL X scope cl (i :: is) (z :: zs)
theorem LapL.get {X : Cx} {scope : Scope} {cl : List (Str × Addr)} {is : List Nat} {zs : List Str} (h : LapL X scope cl is zs) : ∀ (j : Nat) (z : Str), zs[j]? = some z → ∃ i c, is[j]? = some i ∧ X.N[i]? = some z ∧ (X.env.scope.names.lookup z = some .cell ∨ X.env.scope.names.lookup z = some .free) ∧ cl.lookup z = some c ∧ scope.names.lookup z = some .free := by
  induction h with
  | nil => intro j z e; simp at e
  | cons h1 h2 h3 h4 _ ih =>
    intro j z e
    cases j with
    | zero => cases e; exact ⟨_, _, rfl, h1, h2, h3, h4⟩
    | succ j => exact ih j z (by simpa using e)
theorem LapL.len {X : Cx} {scope : Scope} {cl : List (Str × Addr)} {is : List Nat} {zs : List Str} (h : LapL X scope cl is zs) : is.length = zs.length := by
  induction h with
  | nil => rfl
  | cons _ _ _ _ _ ih => simp [ih]
theorem LFrees.many {X : Cx} {x : Str} {zs : List Str} {is : List Nat} {scope : Scope} {cl : List (Str × Addr)} (hs : SubL X cl) (hc : LapL X scope cl is zs) (ha : (scope.names.all fun y => !(y.2 == .cell || y.2 == .free) || zs.contains y.1) = true) (par : scope.names.lookup x = some .local)
    (nocell : ∀ y ∈ scope.names, y.2 ≠ .cell) (kind : scope.kind = .function) (co : scope.isCoroutine = false) (gen : scope.isGenerator = false) : LFrees X x zs is scope cl where
  par := par
  sub := hs.sub
  cap := hc.get
  has := fun y h => by
    have key : ∀ kd, scope.names.lookup y = some kd → (kd == NameKind.cell || kd == NameKind.free) = true → y ∈ zs := fun kd e q => by
      have m := List.all_eq_true.mp ha _ (PySem.mem_of_lookup e)
      rw [q] at m
      have : zs.contains y = true := by simpa using m
      exact List.contains_iff_mem.mp this
    have mem : y ∈ zs := by
      rcases h with h | h
      · exact key _ h rfl
      · exact key _ h rfl
    obtain ⟨j, hj⟩ := List.getElem?_of_mem mem
    obtain ⟨i, c, _, _, _, f4, _⟩ := hc.get j y hj
    exact ⟨c, f4⟩
  len := hc.len
  nocell := nocell
  kind := kind
  co := co
  gen := gen
abbrev lamEnv (q : Str) (scope : Scope) (L : Addr) (f c : Addr) (cl : List (Str × Addr)) : Env := newEnv scope L mainGlobals cl (q ++ ".<locals>.") (some f) (.ref c) none builtinsNs
def lamCx (X : Cx) (N' : List Str) (q : Str) (scope : Scope) (cl : List (Str × Addr)) (f c : Addr) (A : Around) (s : Shared) (H : Hp) (pins : List (Addr × Obj)) : Cx :=
  { X with A := A.deeper (lamEnv q scope s.heap.objs.size f c cl), N := N', s₀ := s, H₀ := H, env := lamEnv q scope s.heap.objs.size f c cl, outer := X.stack, stack := lamEnv q scope s.heap.objs.size f c cl :: X.stack, ex := [], fn := fun _ => false, calm := true, pn := X.pn ++ pins, xe := fun _ _ => False }
theorem lam_call {X : Cx} {pins : List (Addr × Obj)} {σ : St} {H : Hp} {s : Shared} {q : Str} {params : Arguments} {body : Expr} {scope : Scope} {cl : List (Str × Addr)} {f : Addr} {o : Obj} {A : Around} {x : Str} {zs : List Str} {is : List Nat} {te : TE} {v : V} {u : Value} {Q : VK}
    (I : Inv X pins σ H s) (L : LamIs X.mg H q params body scope cl o) (hf : (f, o) ∈ X.pn ++ pins) (fr : LFrees X x zs is scope cl) (hA : A.frames = some X.stack) (hh : A.handled = none) (hroom : A.depth < recursionLimit)
    (hb : ∀ (c : Addr) (ct u : Value), bindArgs (PySem.W.kla_fn "<lambda>" q params body scope cl ((X.mg "__name__").getD .none) (.ref c) ct) ⟨[u], []⟩ = pure [(x, u)])
    (he : ∀ f c s H pins, PE (lamCx X (x :: zs) q scope cl f c A s H pins) body te) (rv : RelV v u) (h : te (some v :: is.map fun i => (σ[i]?).join) H Q) :
    wpAny (model X.prog X.w) A (call (.ref f) [u]) (fun r s' => (∃ y H', Inv X pins σ H' s' ∧ RelV y r ∧ Q y H') ∧ ∀ m, s.heap.Ns X.env.locals m → s'.heap.Ns X.env.locals m) (fun _ _ => False) s := by
  obtain ⟨c, ct, oc, w', vs, t, rfl, hc, hd, h1⟩ := L
  have ho := (I.pin _ hf).1
  have hcd : s.heap.CodeRec (.ref c) q := ⟨c, oc, vs, t, rfl, (show ObjOk X.prog X.w H s.heap c (.frz oc w') from I.hok c _ hc).1, hd, h1⟩
  refine wpAny_call (codeAny_mono (PySem.W.kla_callFunE (R := fun r s' => ∃ u, r = .ok (.ret u) ∧ (∃ y H', Inv X pins σ H' s' ∧ RelV y u ∧ Q y H') ∧ ∀ m, s.heap.Ns X.env.locals m → s'.heap.Ns X.env.locals m) hroom ho rfl fr.co fr.gen rfl hcd ?_) fun r s' hq => ?_)
  · rw [hb]
    refine wpAny_pure (wpAny_newFunctionEnv fr.nocell (fun y hy => ?_) (fun h₁ hns hsb => ⟨?_, PySem.W.kla_codeExpr ?_⟩) fr.kind)
    · cases List.mem_singleton.mp hy
      exact fr.par
    · have old : ∀ b o, s.heap.get? b = some o → h₁.get? b = some o := fun b o e => hsb.extBut b o (Nat.ne_of_lt (Heap.lt_size e)) (Heap.get?_push_of_some _ e)
      exact I.nolimit.keeps old
    · have old : ∀ b o, s.heap.get? b = some o → h₁.get? b = some o := fun b o e => hsb.extBut b o (Nat.ne_of_lt (Heap.lt_size e)) (Heap.get?_push_of_some _ e)
      have noA : ∀ b : Addr, b ∉ ([] : List Addr) := fun b => by simp
      have start : Inv (lamCx X (x :: zs) q scope cl f c A s H pins) [] (some v :: is.map fun i => (σ[i]?).join) H { s with heap := h₁, toks := s.toks + 1 } := by
        refine ⟨⟨I.ok.mod, fr.kind, rfl, rfl, Nat.le_refl _, fun y z c h1 h2 => I.ok.inj y z c (fr.sub y c h1) (fr.sub z c h2), fun y hy => fr.has y hy, fun y c h _ => (by cases h), fun _ => hh, Around.frames_deeper hA, .inr ⟨rfl, rfl⟩, fun b z => absurd z (noA b), I.bs, Nat.le_trans I.ok.bsz I.sz, fun b _ _ => noA b, fun b z => absurd z (noA b), I.stack, I.stkFree⟩,
          rfl, I.bare, Un.kept old, ⟨_, hns, fun j y v' e1 e2 _ => ?_⟩, fun y c e => ?_, I.hok.fresh (Nat.le_refl _), fun y c e => I.freeC y c (fr.sub y c e), fun p hp => ?_, I.hok.kept old, ?_⟩
        · cases j with
          | zero =>
            cases e1
            cases e2
            exact ⟨u, rv, .inl ⟨fr.par, by simp⟩⟩
          | succ j =>
            have e1 : zs[j]? = some y := by simpa [lamCx] using e1
            have e2 : (is.map fun i => (σ[i]?).join)[j]? = some (some v') := by simpa using e2
            obtain ⟨i, c2, f1, f2, f3, f4, f5⟩ := fr.cap j y e1
            rw [List.getElem?_map, f1] at e2
            have e3 : (σ[i]?).join = some v' := Option.some.inj e2
            obtain ⟨m, hn, hl⟩ := I.loc
            obtain ⟨u2, r2, l⟩ := hl i y v' f2 (VL.join_some e3) (by rcases f3 with z | z; exact .inr (.inl z); exact .inr (.inr z))
            refine ⟨u2, r2, .inr ⟨.inr f5, c2, f4, ?_⟩⟩
            rcases l with ⟨k, _⟩ | ⟨_, c', e', z⟩
            · have k : X.env.scope.names.lookup y = some .local := k
              rcases f3 with z | z <;> rw [z] at k <;> cases k
            · rw [fr.sub y c2 f4] at e'
              cases e'
              obtain ⟨o, ho, hd⟩ := z
              exact ⟨o, old _ _ ho, hd⟩
        · obtain ⟨v, o, ho, hd⟩ := I.cell y c (fr.sub y c e)
          exact ⟨v, o, old _ _ ho, hd⟩
        · have hp' : p ∈ X.pn ++ pins := by simpa [lamCx] using hp
          obtain ⟨e, n, ne, nf, d⟩ := I.pin p hp'
          refine ⟨old _ _ e, n, Nat.ne_of_lt (Heap.lt_size e), fun z => ?_, d⟩
          rcases List.mem_cons.mp (I.stkSub p.1 z) with q | q
          · exact ne q
          · exact nf q
        · show _ = (x :: zs).length
          rw [List.length_cons, List.length_map, List.length_cons, fr.len]
      refine wpAny_mono (he f c s H pins [] _ _ H _ start h) (fun r s' hq => ?_) fun _ _ z => z.elim
      obtain ⟨y, H', J, ry, qy⟩ := hq
      refine ⟨r, rfl, ⟨y, H', I.call' J.os J.base J.hok J.bare (fun b z => absurd z (noA b)), ry, qy⟩, fun m hm => ?_⟩
      obtain ⟨o, es, ep, e1, e2⟩ := hm
      obtain ⟨sl, e3⟩ := J.base.any (b := X.env.locals) e1 I.free (noA _)
      exact ⟨_, es, ep, e3, e2⟩
  · obtain ⟨u, rfl, hq⟩ := hq
    exact hq
end L2
set_option Elab.async false
set_option linter.all false
set_option maxRecDepth 100000
namespace L2
open PySem PySem.Spec PyProof.Rows
section
variable {X : Cx} {pins : List (Addr × Obj)} {σ : St} {H : Hp} {s : Shared} {m : Str → Option Value} {h' : Heap} {kS : Addr} {ok : Obj}
theorem Inv.frM (I : Inv X pins σ H s) (hm : s.heap.Ns X.env.locals m) : Fr X.base X.env.locals s.heap m := ⟨hm, I.bk, Nat.le_trans I.ok.bsz I.ok.above⟩
theorem keep_rest {o : Obj} (F' : Fr X.base X.env.locals h' m) (N' : News X.base X.env.locals h' ((kS, o) :: rest X.base s.heap X.env.locals kS)) (I : Inv X pins σ H s) : ∀ b v, b ≠ X.env.locals → b ≠ kS → s.heap.get? b = some v → h'.get? b = some v := fun b v hb hk q => by
  cases e : X.base.get? b with
  | some y =>
    have e1 := I.bk b y e
    rw [q] at e1
    cases e1
    exact F'.keep b v e
  | none => exact (N' (b, v) (List.mem_cons_of_mem _ (List.mem_filter.mpr ⟨mem_allNews hb e q, by simpa using hk⟩))).1
theorem Inv.renew {o : Obj} {t' : Nat} (I : Inv X pins σ H s) (hm : s.heap.Ns X.env.locals m) (F' : Fr X.base X.env.locals h' m) (N' : News X.base X.env.locals h' ((kS, o) :: rest X.base s.heap X.env.locals kS))
    (h0 : H kS = none) (h1 : X.s₀.heap.objs.size ≤ kS) (h2 : kS ≠ X.env.locals) (h3 : ∀ x c, X.env.cells.lookup x = some c → c ≠ kS) (h4 : ∀ p ∈ X.pn ++ pins, p.1 ≠ kS) : Inv X pins σ H { s with heap := h', toks := t' } := by
  have keep := keep_rest F' N' I
  refine I.step (g' := s.gens) (d' := s.drawn) (ch := [kS]) (fun b hb => ?_) (fun b v q1 _ q2 q _ => keep b v q1 (fun z => q2 (by rw [z]; exact List.mem_singleton.mpr rfl)) q) (fun b v q1 _ q2 q _ => ⟨v.slots, keep b v q1 (fun z => q2 (by rw [z]; exact List.mem_singleton.mpr rfl)) q⟩) (fun _ _ _ _ n => n) (fun b v hb q => ?_) (fun _ _ q => q) (fun _ _ _ q => q) (fun b ps q => ⟨#[], by rw [q]; simp⟩) (fun m' hm' => ?_) (fun b w q => ?_) I.bare
  · rw [List.mem_singleton.mp hb]; exact ⟨.inr h1, h2, h3, h4⟩
  · by_cases hL : b = X.env.locals
    · subst hL
      obtain ⟨o2, _, _, e2, _⟩ := F'.ns
      exact ⟨o2, e2⟩
    · exact ⟨v, keep b v hL (fun z => hb (by rw [z]; exact List.mem_singleton.mpr rfl)) q⟩
  · have e1 := hm'.eq_nsMap
    have e2 := hm.eq_nsMap
    rw [e1, ← e2]
    exact F'.ns
  · have nL : ∀ b w, H b = some w → b ≠ X.env.locals := fun b w q z => by rw [z, I.free] at q; cases q
    have nK : ∀ b w, H b = some w → b ≠ kS := fun b w q z => by rw [z, h0] at q; cases q
    refine (I.hok b w q).stay (fun c y hc r => keep c y ?_ ?_ r) (fun _ r => r) fun _ _ r => r
    · rcases hc with rfl | hc
      · exact nL _ _ q
      · exact nL _ _ hc
    · rcases hc with rfl | hc
      · exact nK _ _ q
      · exact nK _ _ hc
end
def Grow (H H' : Hp) : Prop := ∀ b u, H b = some u → H' b = some u
theorem LamIs.grow {mg : Str → Option Value} {H H' : Hp} {q : Str} {params : Arguments} {body : Expr} {scope : Scope} {cl : List (Str × Addr)} {o : Obj} (L : LamIs mg H q params body scope cl o) (g : Grow H H') : LamIs mg H' q params body scope cl o := by
  obtain ⟨c, ct, oc, u, vs, t, e1, e2, e3⟩ := L
  exact ⟨c, ct, oc, u, vs, t, e1, g _ _ e2, e3⟩
def keysW (te : TE) (fs : List (Option V)) (Fin : List V → Hp → Prop) : List V → List V → Hp → Prop
  | [], ks, H => Fin ks H
  | v :: r, ks, H => te (some v :: fs) H fun k H' => Grow H H' ∧ keysW te fs Fin r (ks ++ [k]) H'
section
variable {X : Cx} {pins : List (Addr × Obj)} {σ : St} {m : Str → Option Value} {kS f : Addr} {o : Obj} {q : Str} {params : Arguments} {body : Expr} {scope : Scope} {cl : List (Str × Addr)} {A : Around} {x : Str} {zs : List Str} {is : List Nat} {te : TE} {Fin : List V → Hp → Prop}
theorem keys_run (fr : LFrees X x zs is scope cl) (hA : A.frames = some X.stack) (hh : A.handled = none) (hroom : A.depth < recursionLimit)
    (hb : ∀ (c : Addr) (ct u : Value), bindArgs (PySem.W.kla_fn "<lambda>" q params body scope cl ((X.mg "__name__").getD .none) (.ref c) ct) ⟨[u], []⟩ = pure [(x, u)])
    (he : ∀ f c s H pins, PE (lamCx X (x :: zs) q scope cl f c A s H pins) body te) (hf : (f, o) ∈ pins) (h1 : X.s₀.heap.objs.size ≤ kS) (h4 : ∀ p ∈ X.pn ++ pins, p.1 ≠ kS) : ∀ {r : List V} {rv : List Value} {ks : List V} {kvs : List Value} {e : Nat} {H : Hp} {s : Shared},
    Vals r rv → Vals ks kvs → Inv X (pins ++ [(kS, seqObj "list" kvs.toArray e)]) σ H s → s.heap.Ns X.env.locals m → LamIs X.mg H q params body scope cl o → keysW te (is.map fun i => (σ[i]?).join) Fin r ks H →
    PySem.W.KatKeys X.prog X.w A X.base X.env.locals m kS (.ref f) (fun kvs' e' s' => ∃ ks' H', Inv X (pins ++ [(kS, seqObj "list" kvs'.toArray e')]) σ H' s' ∧ s'.heap.Ns X.env.locals m ∧ Vals ks' kvs' ∧ Fin ks' H') rv kvs e s
  | [], _, ks, kvs, e, H, s, .nil, rk, I, hm, L, h => PySem.W.KatKeys.nil ⟨ks, H, I, hm, rk, h⟩
  | v :: r, _, ks, kvs, e, H, s, .cons rv1 rv, rk, I, hm, L, h => by
    refine PySem.W.KatKeys.cons (wpAny_mono (lam_call I L (List.mem_append_right _ (List.mem_append_left _ hf)) fr hA hh hroom hb he rv1 h) (fun k s' hq => ?_) fun _ _ z => z)
    obtain ⟨⟨y, H', J, ry, g, hk⟩, hns⟩ := hq
    have hm' := hns m hm
    obtain ⟨p1, p2, p3, p4, p5⟩ := J.pin (kS, seqObj "list" kvs.toArray e) (List.mem_append_right _ (List.mem_append_right _ (List.mem_singleton.mpr rfl)))
    have hbase : X.base.get? kS = none := by
      cases eb : X.base.get? kS with
      | none => rfl
      | some y => exact absurd (Nat.lt_of_lt_of_le (Heap.lt_size eb) (Nat.le_trans J.ok.bsz h1)) (Nat.lt_irrefl _)
    refine PySem.W.KatBack.intro (J.frM hm') (news_at p3 hbase p1) (.head fun p hp => by simpa using (List.mem_filter.mp hp).2) fun h2 c F2 N2 => ?_
    have J0 : Inv X pins σ H' s' := J.unpinned
    have cells : ∀ x c, X.env.cells.lookup x = some c → c ≠ kS := fun x c e z => by
      obtain ⟨v, o, ho, hd⟩ := J.cell x c e
      rw [z, p1] at ho
      cases ho
      exact p5 v hd
    have J1 : Inv X pins σ H' { s' with heap := h2, toks := s'.toks } := J0.renew hm' F2 N2 p2 h1 p3 cells h4
    have J2 : Inv X (pins ++ [(kS, seqObj "list" (kvs ++ [k]).toArray c)]) σ H' { s' with heap := h2, toks := s'.toks } := J1.pins_of fun p hp => by
      rcases List.mem_append.mp hp with hp | hp
      · exact J1.pin p (List.mem_append_right _ hp)
      · cases List.mem_singleton.mp hp
        exact ⟨(N2 _ List.mem_cons_self).1, p2, p3, p4, fun v z => by cases z⟩
    exact keys_run fr hA hh hroom hb he hf h1 h4 rv (rk.append (.cons ry .nil)) J2 F2.ns (L.grow g) hk
structure Nil (X : Cx) (pins : List (Addr × Obj)) (H : Hp) (b : Addr) : Prop where
  h : H b = none
  cell : ∀ x c, X.env.cells.lookup x = some c → c ≠ b
  pin : ∀ p ∈ X.pn ++ pins, p.1 ≠ b
  fs : b ∉ X.fs
theorem Inv.nil {H : Hp} {s : Shared} (I : Inv X pins σ H s) {b : Addr} (e : s.heap.get? b = none) : Nil X pins H b where
  h := by
    cases q : H b with
    | none => rfl
    | some o => obtain ⟨u, hu⟩ := (I.hok b o q).live; rw [e] at hu; cases hu
  cell := fun x c q z => by
    obtain ⟨v, o, ho, _⟩ := I.cell x c q
    rw [z, e] at ho; cases ho
  pin := fun p hp z => by
    have := (I.pin p hp).1
    rw [z, e] at this; cases this
  fs := fun z => by
    obtain ⟨_, o, ho, _⟩ := I.ok.funs.mem z
    obtain ⟨o', h'⟩ := I.base.there b o ho fun hx => I.ok.exfs b hx z
    rw [e] at h'; cases h'
theorem vals_rev {xs : List V} {us : List Value} (h : Vals xs us) : Vals xs.reverse us.reverse := by
  induction h with
  | nil => exact .nil
  | cons a _ ih => rw [List.reverse_cons, List.reverse_cons]; exact ih.append (.cons a .nil)
theorem vals_katRev (b : Bool) {xs : List V} {us : List Value} (h : Vals xs us) : Vals (PySem.W.katRev b xs) (PySem.W.katRev b us) := by
  cases b with
  | false => exact h
  | true => exact vals_rev h
theorem vals_idx {xs : List V} {us : List Value} (h : Vals xs us) : ∀ {l : List Nat}, (∀ i ∈ l, i < xs.length) → Vals (l.map fun i => xs.getD i .non) (l.map fun i => us.getD i Value.none)
  | [], _ => .nil
  | i :: l, hl => by
    have hi := hl i List.mem_cons_self
    obtain ⟨w, ew, rw'⟩ := h.get (List.getElem?_eq_getElem hi)
    refine .cons ?_ (vals_idx h fun j hj => hl j (List.mem_cons_of_mem _ hj))
    have ev : xs.getD i .non = xs[i] := by rw [List.getD_eq_getElem?_getD, List.getElem?_eq_getElem hi]; rfl
    have eu : us.getD i Value.none = w := by rw [List.getD_eq_getElem?_getD, ew]; rfl
    show RelV (xs.getD i .non) (us.getD i Value.none)
    rw [ev, eu]
    exact rw'
def FinG (X : Cx) (b : Bool) (vs : List V) (Q : VK) (ks : List V) (H : Hp) : Prop := ∃ lt : Nat → Nat → Bool, Srt.Ord lt ∧
  (∀ (pins : List (Addr × Obj)) (σ : St) (s : Shared) (kvs : List Value), Inv X pins σ H s → Vals ks kvs → 2 ≤ kvs.length → ∃ κ, (∀ Q' : SortKind → Shared → Prop, Q' κ s → wpAny (model X.prog X.w) X.A.in1.in1 (keyKind' (List.toArray kvs)) Q' (fun _ _ => False) s) ∧
    ∀ i j (C : Bool → Shared → Prop), i < kvs.length → j < kvs.length → C (lt i j) s → PySem.W.kas_ask X.prog X.w X.A.in1.in1 κ (PySem.W.katRev b kvs) i j C s) ∧
  ∀ p : List Nat, p.Perm (List.range ks.length) → (p.Pairwise fun i j => lt j i = false) → ∀ D, H D = none → Q (.ref D) (upd H D (.lst (PySem.W.katRev b (p.map fun i => (PySem.W.katRev b vs).getD i .non))))
def FinT (vs : List V) (Q : VK) (ks : List V) (H : Hp) : Prop := ∃ (ps : List Addr) (kz : List (List Int)), ks = ps.map V.ref ∧ TupZ H ps kz ∧
  ∀ idx : List Nat, idx.Perm (List.range kz.length) → (idx.Pairwise fun i j => lexLt (kz.getD j []) (kz.getD i []) = false) → ∀ D, H D = none → Q (.ref D) (upd H D (.lst (idx.map fun i => vs.getD i .non)))
theorem FinT.g {vs : List V} {Q : VK} {ks : List V} {H : Hp} (h : FinT vs Q ks H) : FinG X false vs Q ks H := by
  obtain ⟨ps, kz, rfl, tz, qf⟩ := h
  have hlp : ps.length = kz.length := Paired.length tz
  refine ⟨fun i j => lexLt (kz.getD i []) (kz.getD j []), lex_ord fun i => kz.getD i [], fun pins σ s kvs J rk h2 => ?_, fun p pm up D hD => qf p (by rw [List.length_map, hlp] at pm; exact pm) up D hD⟩
  have ek := refs_of rk
  subst ek
  rw [List.length_map] at h2
  have it : ∀ i, i < kz.length → ∃ p z o us n, ps[i]? = some p ∧ kz[i]? = some z ∧ z ≠ [] ∧ s.heap.get? p = some o ∧ o.cls = .type "tuple" ∧ o.data = .seq us.toArray n ∧ IntsAre us z := fun i hi => by
    obtain ⟨p, e1, g1, g2⟩ := VL.Paired.getF tz (List.getElem?_eq_getElem hi)
    obtain ⟨o, us, n, k1, k2, k3, k4⟩ := tup_items J g2
    exact ⟨p, _, o, us, n, e1, List.getElem?_eq_getElem hi, g1, k1, k2, k3, k4⟩
  obtain ⟨fs, kt, fl, ff⟩ := kat_tups (h := s.heap) (ps := ps) fun p hp => by
    obtain ⟨i, hi, rfl⟩ := List.mem_iff_getElem.mp hp
    obtain ⟨p', z, o, us, n, e1, e2, g1, k1, k2, k3, k4⟩ := it i (by omega)
    rw [List.getElem?_eq_getElem hi] at e1
    cases e1
    cases k4 with
    | nil => exact absurd rfl g1
    | cons x t r => exact ⟨o, _, n, x, t, _, k1, k2, k3, rfl⟩
  refine ⟨_, fun Q' hq => PySem.W.kat_kind (T := .type "int") kt (by omega) (fun v hv => ?_) (by decide) hq, fun i j C hi hj hC => ?_⟩
  · obtain ⟨x, t, rfl⟩ := ff v hv
    exact PySem.W.Looks.of_pure rfl
  · rw [List.length_map] at hi hj
    obtain ⟨p, z, o, us, n, e1, e2, g1, k1, k2, k3, k4⟩ := it i (by omega)
    obtain ⟨p', z', o', us', n', e1', e2', g1', k1', k2', k3', k4'⟩ := it j (by omega)
    have ei : (ps.map Value.ref).getD i Value.none = .ref p := by rw [List.getD_eq_getElem?_getD, List.getElem?_map, e1]; rfl
    have ej : (ps.map Value.ref).getD j Value.none = .ref p' := by rw [List.getD_eq_getElem?_getD, List.getElem?_map, e1']; rfl
    have zi : kz.getD i [] = z := by rw [List.getD_eq_getElem?_getD, e2]; rfl
    have zj : kz.getD j [] = z' := by rw [List.getD_eq_getElem?_getD, e2']; rfl
    unfold PySem.W.kas_ask
    show wpAny _ _ (keyLt' _ ((ps.map Value.ref).getD i Value.none) ((ps.map Value.ref).getD j Value.none)) _ _ _
    rw [ei, ej]
    dsimp only at hC
    rw [zi, zj] at hC
    refine PySem.W.kat_lt k1 k3 k1' k3' ?_
    have l1 := IntsAre.length k4
    have l2 := IntsAre.length k4'
    have lx := ints_lex (prog := X.prog) (w := X.w) (A := X.A.in1.in1) (s := s) 0 k4 k4' hC
    rw [← l1, ← l2] at lx
    exact lx
theorem sortG_big {b : Bool} {kw : List (Str × Value)} {H : Hp} {s : Shared} {a : Addr} {vs : List V} {Q : VK} (I : Inv X (pins ++ [(f, o)]) σ H s) (hff : ∀ p ∈ X.pn ++ pins, p.1 ≠ f) (hf0 : X.s₀.heap.objs.size ≤ f) (L : LamIs X.mg H q params body scope cl o)
    (fr : LFrees X x zs is scope cl) (hh : X.A.handled = none) (hroom : X.A.in1.in1.depth < recursionLimit) (hA : X.A.in1.in1.frames = some X.stack) (hh2 : X.A.in1.in1.handled = none)
    (hb : ∀ (c : Addr) (ct u : Value), bindArgs (PySem.W.kla_fn "<lambda>" q params body scope cl ((X.mg "__name__").getD .none) (.ref c) ct) ⟨[u], []⟩ = pure [(x, u)])
    (he : ∀ f c s H pins, PE (lamCx X (x :: zs) q scope cl f c X.A.in1.in1 s H pins) body te)
    (hq : SqL X.K H a vs) (h2 : 2 ≤ vs.length) (h64 : vs.length < 64) (h : keysW te (is.map fun i => (σ[i]?).join) Fin vs [] H) (hg : ∀ ks H, ks.length = vs.length → Fin ks H → FinG X b vs Q ks H)
    (ha1 : argsOk "sorted" ⟨[.ref a], kw⟩) (ha2 : ∀ x, argsOk "list.sort" ⟨[.ref x], kw⟩) (ht : ∀ x, Builtin.«list.sort» ⟨[.ref x], kw⟩ = PyProof.Rows.ksk_tree x (.ref f) b) :
    wpAny (model X.prog X.w) X.A (call (.builtin "sorted") [.ref a] kw) (EP X pins σ Q) X.xe s := by
  obtain ⟨its, rv, pl, _⟩ := I.list hq
  have hlv : its.length = vs.length := rv.length.symm
  obtain ⟨m, F⟩ := I.fr
  have fin : (f, o) ∈ allNews X.base s.heap X.env.locals := by
    obtain ⟨p1, p2, p3, p4, p5⟩ := I.pin (f, o) (List.mem_append_right _ (List.mem_append_right _ (List.mem_singleton.mpr rfl)))
    refine mem_allNews p3 ?_ p1
    cases eb : X.base.get? f with
    | none => rfl
    | some y => exact absurd (Nat.lt_of_lt_of_le (Heap.lt_size eb) (Nat.le_trans I.ok.bsz hf0)) (Nat.lt_irrefl _)
  refine PySem.W.kat_sortedK (vs := its) (b := b) (f := .ref f) F (news_all (h := s.heap)) pl.isList (by omega) (by omega) ha1 ha2 ht fun D kS e1 h' F' N' hDk hlt => ?_
  have nK := N' _ List.mem_cons_self
  have nD := N' _ (List.mem_cons_of_mem _ List.mem_cons_self)
  have fD : f < D := hlt _ fin
  have gD : s.heap.get? D = none := by
    cases e : s.heap.get? D with
    | none => rfl
    | some o => exact absurd (hlt (D, o) (mem_allNews nD.2.1 nD.2.2 e)) (Nat.lt_irrefl _)
  have gK : s.heap.get? kS = none := by
    cases e : s.heap.get? kS with
    | none => rfl
    | some o => exact absurd (Nat.lt_trans hDk (hlt (kS, o) (mem_allNews nK.2.1 nK.2.2 e))) (Nat.lt_irrefl _)
  have s0D : X.s₀.heap.objs.size ≤ D := Nat.le_trans hf0 (Nat.le_of_lt fD)
  have s0K : X.s₀.heap.objs.size ≤ kS := Nat.le_trans s0D (Nat.le_of_lt hDk)
  have zD := I.nil gD
  have zK := I.nil gK
  have N2 : News X.base X.env.locals h' ((kS, seqObj "list" #[] 0) :: rest X.base s.heap X.env.locals kS) := fun p hp => by
    rcases List.mem_cons.mp hp with rfl | hp
    · exact nK
    · exact N' p (List.mem_cons_of_mem _ (List.mem_cons_of_mem _ (List.mem_filter.mp hp).1))
  have I1 : Inv X (pins ++ [(f, o)]) σ H { s with heap := h', toks := s.toks } := I.renew F.ns F' N2 zK.h s0K nK.2.1 zK.cell zK.pin
  have I2 : Inv X ((pins ++ [(f, o), (D, seqObj "list" #[] e1)]) ++ [(kS, seqObj "list" ([] : List Value).toArray 0)]) σ H { s with heap := h', toks := s.toks } := I1.pins_of fun p hp => by
    rcases List.mem_append.mp hp with hp | hp
    · rcases List.mem_append.mp hp with hp | hp
      · exact I1.pin p (List.mem_append_right _ (List.mem_append_left _ hp))
      · rcases List.mem_cons.mp hp with rfl | hp
        · exact I1.pin _ (List.mem_append_right _ (List.mem_append_right _ (List.mem_singleton.mpr rfl)))
        · cases List.mem_singleton.mp hp
          exact ⟨nD.1, zD.h, nD.2.1, zD.fs, fun v z => by cases z⟩
    · cases List.mem_singleton.mp hp
      exact ⟨nK.1, zK.h, nK.2.1, zK.fs, fun v z => by cases z⟩
  have h4 : ∀ p ∈ X.pn ++ (pins ++ [(f, o), (D, seqObj "list" #[] e1)]), p.1 ≠ kS := fun p hp => by
    rcases List.mem_append.mp hp with hp | hp
    · exact zK.pin p (List.mem_append_left _ hp)
    · rcases List.mem_append.mp hp with hp | hp
      · exact zK.pin p (List.mem_append_right _ (List.mem_append_left _ hp))
      · rcases List.mem_cons.mp hp with rfl | hp
        · exact zK.pin _ (List.mem_append_right _ (List.mem_append_right _ (List.mem_singleton.mpr rfl)))
        · cases List.mem_singleton.mp hp
          exact Nat.ne_of_lt hDk
  refine PySem.W.kat_keys_mono (keys_run fr hA hh2 hroom hb he (List.mem_append_right _ List.mem_cons_self) s0K h4 rv .nil I2 F'.ns L h) fun kvs e3 s3 hl3 hfin => ?_
  obtain ⟨ks, H3, J, hm3, rk, fin⟩ := hfin
  have hl3 : kvs.length = vs.length := by rw [hl3, List.length_nil]; omega
  have hlz := rk.length
  obtain ⟨lt, ord, ask, qf⟩ := hg _ _ (by omega) fin
  obtain ⟨κ, kind, ask⟩ := ask _ _ _ _ J rk (by omega)
  refine kind _ ?_
  show (PySem.W.kas_sort its.length).kasWp (PySem.W.kas_ask _ _ _ _ (PySem.W.katRev b kvs)) _ _
  have hlk : its.length = kvs.length := by omega
  rw [hlk]
  refine Srt.KOk.wp (lt := lt) (N := kvs.length) ask _ (Srt.KOk.mono (fun p hp => ?_) _ (Srt.sort_ok ord (by omega)))
  obtain ⟨pm, up⟩ := hp
  have hlen : p.toList.length = kvs.length := by rw [pm.length_eq, List.length_range]
  have lt_ : ∀ i ∈ p.toList, i < kvs.length := fun i hi => List.mem_range.mp (pm.mem_iff.mp hi)
  have upw : p.toList.Pairwise fun i j => lt j i = false := by
    rw [List.pairwise_iff_getElem]
    intro i j hi hj hij
    have hu := up i j (by omega) (by omega)
    have gi : Srt.g p i = p.toList[i] := by unfold Srt.g; rw [Array.getD_eq_getD_getElem?, Array.getElem?_eq_getElem (by simpa using hi)]; rfl
    have gj : Srt.g p j = p.toList[j] := by unfold Srt.g; rw [Array.getD_eq_getD_getElem?, Array.getElem?_eq_getElem (by simpa using hj)]; rfl
    rw [gi, gj] at hu
    exact hu
  obtain ⟨p1, p2, p3, p4, p5⟩ := J.pin (kS, seqObj "list" kvs.toArray e3) (List.mem_append_right _ (List.mem_append_right _ (List.mem_singleton.mpr rfl)))
  refine PySem.W.KatFin.intro (J.frM hm3) (news_at p3 nK.2.2 p1) (.head rest_ne) fun h5 c5 F5 N5 => ?_
  have cells : ∀ x c, X.env.cells.lookup x = some c → c ≠ kS := fun x c e z => by
    obtain ⟨v, o, ho, hd⟩ := J.cell x c e
    rw [z, p1] at ho
    cases ho
    exact p5 v hd
  have J5 : Inv X (pins ++ [(f, o), (D, seqObj "list" #[] e1)]) σ H3 { s3 with heap := h5, toks := s3.toks } := (Inv.unpinned J).renew hm3 F5 N5 p2 s0K p3 cells h4
  obtain ⟨d1, d2, d3, d4, d5⟩ := J5.pin (D, seqObj "list" #[] e1) (List.mem_append_right _ (List.mem_append_right _ (List.mem_cons_of_mem _ (List.mem_singleton.mpr rfl))))
  refine PySem.W.KasFin.intro F5 (news_at d3 nD.2.2 d1) (.head rest_ne) fun h6 c6 F6 N6 => ?_
  have J6 : Inv X pins σ H3 { s3 with heap := h5, toks := s3.toks } := J5.unpinned
  have cellsD : ∀ x c, X.env.cells.lookup x = some c → c ≠ D := fun x c e z => by
    obtain ⟨v, o, ho, hd⟩ := J5.cell x c e
    rw [z, d1] at ho
    cases ho
    exact d5 v hd
  have pinD : ∀ p ∈ X.pn ++ pins, p.1 ≠ D := fun p hp => by
    refine zD.pin p ?_
    rcases List.mem_append.mp hp with hp | hp
    · exact List.mem_append_left _ hp
    · exact List.mem_append_right _ (List.mem_append_left _ hp)
  have J7 : Inv X pins σ H3 { s3 with heap := h6, toks := s3.toks } := J6.renew F5.ns F6 N6 d2 s0D d3 cellsD pinD
  have out : Out X pins H3 D := ⟨d2, Heap.get?_none_of_le s0D, d3, cellsD, pinD⟩
  have rvs := vals_katRev b (vals_idx (vals_katRev b rv) (l := p.toList) fun i hi => by rw [PySem.W.kat_len]; have := lt_ i hi; omega)
  refine ⟨.ref D, upd H3 D (.lst (PySem.W.katRev b (p.toList.map fun i => (PySem.W.katRev b vs).getD i .non))), J7.track out ?_, rfl, qf p.toList (by rw [hlz]; exact pm) upw D d2⟩
  refine ⟨by rw [PySem.W.kat_len, List.length_map, hlen]; have := sizeLine_eq; omega, _, c6, rvs, ?_⟩
  exact (N6 _ List.mem_cons_self).1
end
end L2
set_option Elab.async false
set_option linter.all false
set_option maxRecDepth 100000
namespace L2
open PySem PySem.Spec PyProof.Rows PySem.Calls
section
open PySem.W
variable {prog : Program} {w : World} {A : Around} {E : Value → Shared → Prop} {s : Shared} {h₀ : Heap} {L kS a : Addr} {m : Str → Option Value} {news : List (Addr × Obj)} {vs : List Value}
theorem few_rev {α : Type} (b : Bool) {l : List α} (h : l.length < 2) : katRev b l = l := by
  cases b with
  | false => rfl
  | true =>
    match l, h with
    | [], _ => rfl
    | [_], _ => rfl
    | _ :: _ :: _, h => exact absurd h (by simp only [List.length_cons]; omega)
theorem few_end {b : Bool} {e e1 : Nat} {ks : List Value} {P : PySem.Fin → Shared → Prop} (hl : ks.length = vs.length) (h2 : vs.length < 2)
    (h : KatFin h₀ L m kS a ks e e1 vs (fun s3 => P (.done (.ret .none)) s3) s) : wpAny (model prog w) A (ksk_end a b vs.toArray e1 (.ref kS) (List.toArray ks)) P E s := by
  have step : ∀ t : Sem PySem.Fin, wpAny (model prog w) A t P E s → wpAny (model prog w) A (if b = true then (do let _ ← rule "list.sort.reverse"; t) else t) P E s := by
    intro t ht
    split
    · exact wpAny_bind (wpAny_rule ht)
    · exact ht
  have hn2 : vs.toArray.size < 2 := by rw [List.size_toArray]; omega
  unfold ksk_end
  try dsimp only
  refine step _ ?_
  rw [if_pos hn2, if_pos hn2, kat_pairs b hl, few_rev b h2, few_rev b (show ks.length < 2 by omega)]
  refine wpAny_bind (wpAny_pure (wpAny_bind (m := StateT.run (pure ()) _) (wpAny_pure ?_)))
  have h' : KatFin h₀ L m kS a ks e e1 (katRev b vs) (fun s3 => P (.done (.ret .none)) s3) s := by rw [few_rev b h2]; exact h
  refine kat_tail (b := b) (out := vs) ?_ (by omega) (by omega) rfl h'
  show Array.map (fun x => x.snd) ((List.toArray ks).zip vs.toArray) = vs.toArray
  apply Array.toList_inj.mp
  rw [Array.toList_map, Array.toList_zip, List.map_snd_zip]
  exact Nat.le_of_eq hl.symm
theorem few_rest {b : Bool} {f : Value} {e1 : Nat} {P : PySem.Fin → Shared → Prop} (hk : s.heap.get? kS = some (seqObj "list" #[] 0)) (h2 : vs.length < 2)
    (h : KatKeys prog w A h₀ L m kS f (fun ks e s' => KatFin h₀ L m kS a ks e e1 vs (fun s4 => P (.done (.ret .none)) s4) s') vs [] 0 s) :
    wpAny (model prog w) A (ksk_rest a f b vs.toArray e1 (.ref kS)) P E s := by
  unfold ksk_rest
  refine wpAny_bind (wpAny_rule ?_)
  first
    | rw [List.forIn_toArray]
    | (rw [← Array.forIn_toList]; simp only [List.toList_toArray])
    | rw [← Array.forIn_toList]
  refine wpAny_bind (wpAny_mono (kat_fold (show vs.length < 64 by omega) (fun x ks e s' C hz hx => ?_) vs [] 0 s (by simp) hk h) (fun _ s' hd => ?_) fun _ _ x => x)
  · refine wpAny_bind (wpAny_attempt (wpAny_mono hx (fun k s'' hk => ?_) fun _ _ hF => hF.elim))
    obtain ⟨news', g, F', N', U, c⟩ := hk
    obtain ⟨pre, post, e0, hg, x1, x2⟩ := U.split
    rw [e0] at N'
    have nk := N' (kS, seqObj "list" (List.toArray ks) e) (List.mem_append_right _ (.head _))
    have s1 := Heap.SameBut.update s''.heap kS (Obj.mapSeq (·.push k))
    have ea : (List.toArray ks).push k = List.toArray (ks ++ [k]) := by simp
    obtain ⟨c2, hc2⟩ : ∃ c2, (s''.heap.update kS (Obj.mapSeq (·.push k))).get? kS = some (seqObj "list" (List.toArray (ks ++ [k])) c2) := ⟨_, by rw [← ea]; exact get?_update_seq nk.1 (·.push k)⟩
    try dsimp only
    refine wpAny_bind (listUpdate_at nk.1 rfl ?_ (by rw [List.size_toArray, sizeLine_eq]; omega) (Nat.le_trans (Nat.le_of_eq (Array.size_push ..)) (by rw [List.size_toArray, sizeLine_eq]; omega)))
    exact wpAny_pure ⟨rfl, k, c2, hc2, c _ c2 (kas_fr F' s1 nk.2.1 nk.2.2) (by rw [hg]; exact news_set N' x1 x2 s1 hc2)⟩
  · obtain ⟨ks, e, hk', hl, fin⟩ := hd
    try dsimp only
    refine wpAny_bind (listItems_at hk' rfl ?_)
    exact few_end hl h2 fin
theorem few_keyed {b : Bool} {f : Value} {n : Nat} {P : PySem.Fin → Shared → Prop} (F : Fr h₀ L s.heap m) (N : News h₀ L s.heap news) (ho : s.heap.get? a = some (seqObj "list" vs.toArray n)) (haL : a ≠ L) (ha0 : h₀.get? a = none) (hna : ∀ p ∈ news, p.1 ≠ a)
    (h2 : vs.length < 2)
    (h : ∀ kS e1 h', Fr h₀ L h' m → News h₀ L h' ((kS, seqObj "list" #[] 0) :: (a, seqObj "list" #[] e1) :: news) → a < kS → (∀ q ∈ news, q.1 < kS) →
      KatKeys prog w A h₀ L m kS f (fun ks e s' => KatFin h₀ L m kS a ks e e1 vs (fun s4 => P (.done (.ret .none)) s4) s') vs [] 0 { s with heap := h' }) :
    wpAny (model prog w) A (ksk_tree a f b) P E s := by
  have ha : a < s.heap.objs.size := Heap.lt_size ho
  have s1 := Heap.SameBut.update s.heap a (Obj.mapSeq fun _ => (#[] : Array Value))
  obtain ⟨e1, ho1⟩ : ∃ e1, (s.heap.update a (Obj.mapSeq fun _ => (#[] : Array Value))).get? a = some (seqObj "list" #[] e1) := ⟨_, get?_update_seq ho fun _ => #[]⟩
  have F1 := kas_fr F s1 haL ha0
  have N1 := kas_news N s1 hna
  have hkS : ((s.heap.update a (Obj.mapSeq fun _ => (#[] : Array Value))).push (seqObj "tuple" vs.toArray 0)).objs.size = s.heap.objs.size + 1 := by rw [size_push', Heap.size_update]
  have hLk : L < ((s.heap.update a (Obj.mapSeq fun _ => (#[] : Array Value))).push (seqObj "tuple" vs.toArray 0)).objs.size := (F1.push _).ns.lt
  unfold ksk_tree
  refine wpAny_bind (listItems_at ho rfl ?_)
  refine wpAny_bind (listUpdate_at ho rfl ?_ (by rw [List.size_toArray, sizeLine_eq]; omega) (Nat.zero_le _))
  refine wpAny_bind (seqEpoch_at ho1 rfl ?_)
  refine wpAny_bind (wpAny_newTuple ?_ (by show vs.length ≤ _; rw [sizeLine_eq]; omega))
  refine wpAny_bind (wpAny_newList ?_ (Nat.zero_le _))
  refine wpAny_holding ?_
  refine few_rest (s := { s with heap := ((s.heap.update a (Obj.mapSeq fun _ => (#[] : Array Value))).push (seqObj "tuple" vs.toArray 0)).push (seqObj "list" #[] 0) }) (kS := ((s.heap.update a (Obj.mapSeq fun _ => (#[] : Array Value))).push (seqObj "tuple" vs.toArray 0)).objs.size)
    (Heap.get?_push_size _ rfl) h2 (h _ e1 _ ((F1.push _).push _) (fun p hp => ?_) (by rw [hkS]; exact Nat.lt_succ_of_lt ha) fun q hq => by rw [hkS]; exact Nat.lt_succ_of_lt (Heap.lt_size (N q hq).1))
  rcases List.mem_cons.mp hp with rfl | hp
  · exact ⟨Heap.get?_push_size _ rfl, Nat.ne_of_gt hLk, Heap.get?_none_of_le (Nat.le_trans F.above (Nat.le_of_lt hLk))⟩
  · rcases List.mem_cons.mp hp with rfl | hp
    · exact ⟨Heap.get?_push_of_some _ (Heap.get?_push_of_some _ ho1), haL, ha0⟩
    · exact ⟨Heap.get?_push_of_some _ (Heap.get?_push_of_some _ (N1 p hp).1), (N1 p hp).2⟩
theorem few_sortedK {l : Addr} {b : Bool} {f : Value} {kw : List (Str × Value)} {Q : Value → Shared → Prop} (F : Fr h₀ L s.heap m) (N : News h₀ L s.heap news) (hl : s.heap.IsList l vs.toArray) (h2 : vs.length < 2)
    (ha1 : argsOk "sorted" ⟨[.ref l], kw⟩) (ha2 : ∀ x, argsOk "list.sort" ⟨[.ref x], kw⟩) (ht : ∀ x, Builtin.«list.sort» ⟨[.ref x], kw⟩ = ksk_tree x f b)
    (h : ∀ D kS e1 h', Fr h₀ L h' m → News h₀ L h' ((kS, seqObj "list" #[] 0) :: (D, seqObj "list" #[] e1) :: news) → D < kS → (∀ q ∈ news, q.1 < D) →
      KatKeys prog w A.in1.in1 h₀ L m kS f (fun ks e s' => KatFin h₀ L m kS D ks e e1 vs (fun s4 => Q (.ref D) s4) s') vs [] 0 { s with heap := h' }) :
    wpAny (model prog w) A (call (.builtin "sorted") [.ref l] kw) Q E s := by
  refine call_function_entry_kw kind_sorted plain_sorted entry_sorted ha1 ?_
  unfold Builtin.«sorted»
  refine wpAny_bind (m := checkCount "sorted" 1 1 _) (wpAny_pure ?_)
  refine wpAny_bind (collect_list hl ?_ (by rw [sizeLine_eq]; omega))
  refine wpAny_bind (wpAny_newList ?_ (by rw [sizeLine_eq]; omega))
  have hsz : ((s.heap.push (seqObj "list" #[] 0)).update s.heap.objs.size (Obj.mapSeq (· ++ vs.toArray))).objs.size = s.heap.objs.size + 1 := by
    rw [Heap.size_update, size_push']
  have hoL : (((s.heap.push (seqObj "list" #[] 0)).update s.heap.objs.size (Obj.mapSeq (· ++ vs.toArray))).push (seqObj "list" vs.toArray 0)).get? (s.heap.objs.size + 1) = some (seqObj "list" vs.toArray 0) := by
    rw [← hsz]; exact Heap.get?_push_size _ rfl
  have keep : ∀ b o, s.heap.get? b = some o → (((s.heap.push (seqObj "list" #[] 0)).update s.heap.objs.size (Obj.mapSeq (· ++ vs.toArray))).push (seqObj "list" vs.toArray 0)).get? b = some o := fun b o q => by
    have hlt : b < s.heap.objs.size := Heap.lt_size q
    rw [Heap.get?_push_ne _ _ _ (by rw [hsz]; exact Nat.ne_of_lt (Nat.lt_succ_of_lt hlt)), Heap.get?_update_ne _ _ _ _ (Nat.ne_of_lt hlt), Heap.get?_push_ne _ _ _ (Nat.ne_of_lt hlt)]
    exact q
  have hL : L < s.heap.objs.size := F.ns.lt
  show wpAny _ _ _ _ _ { s with heap := ((s.heap.push (seqObj "list" #[] 0)).update s.heap.objs.size (Obj.mapSeq (· ++ vs.toArray))).push (seqObj "list" vs.toArray 0) }
  rw [hsz]
  refine wpAny_bind (wpAny_holding (wpAny_call_entry_kw slot_list_sort ⟨_, hoL, rfl⟩ entry_list_sort ?body (ha2 _)))
  case body =>
    have ht' := ht (s.heap.objs.size + 1)
    show wpAny (model prog w) A.in1.in1 (Builtin.«list.sort» ⟨[.ref (s.heap.objs.size + 1)], kw⟩) _ _ _
    rw [ht']
    refine few_keyed (s := { s with heap := ((s.heap.push (seqObj "list" #[] 0)).update s.heap.objs.size (Obj.mapSeq (· ++ vs.toArray))).push (seqObj "list" vs.toArray 0) })
      (F.kept keep) (N.grown keep) hoL (Nat.ne_of_gt (Nat.lt_succ_of_lt hL)) (Heap.get?_none_of_le (Nat.le_trans F.above (Nat.le_succ_of_le (Nat.le_of_lt hL))))
      (fun p hp => Nat.ne_of_lt (Nat.lt_succ_of_lt (Heap.lt_size (N p hp).1))) h2 fun kS e1 h' F' N' l0 l1 => ?_
    refine kat_keys_mono (h _ kS e1 h' F' N' l0 fun q hq => Nat.lt_succ_of_lt (Heap.lt_size (N q hq).1)) fun ks e s' hl' hd => ?_
    exact hd.mono fun s4 hq => ⟨_, rfl, wpAny_pure ⟨_, rfl, hq⟩⟩
end
section
variable {X : Cx} {pins : List (Addr × Obj)} {σ : St} {m : Str → Option Value} {kS f : Addr} {o : Obj} {q : Str} {params : Arguments} {body : Expr} {scope : Scope} {cl : List (Str × Addr)} {A : Around} {x : Str} {zs : List Str} {is : List Nat} {te : TE} {Fin : List V → Hp → Prop}
theorem sortG_few {b : Bool} {kw : List (Str × Value)} {H : Hp} {s : Shared} {a : Addr} {vs : List V} {Q : VK} (I : Inv X (pins ++ [(f, o)]) σ H s) (hff : ∀ p ∈ X.pn ++ pins, p.1 ≠ f) (hf0 : X.s₀.heap.objs.size ≤ f) (L : LamIs X.mg H q params body scope cl o)
    (fr : LFrees X x zs is scope cl) (hh : X.A.handled = none) (hroom : X.A.in1.in1.depth < recursionLimit) (hA : X.A.in1.in1.frames = some X.stack) (hh2 : X.A.in1.in1.handled = none)
    (hb : ∀ (c : Addr) (ct u : Value), bindArgs (PySem.W.kla_fn "<lambda>" q params body scope cl ((X.mg "__name__").getD .none) (.ref c) ct) ⟨[u], []⟩ = pure [(x, u)])
    (he : ∀ f c s H pins, PE (lamCx X (x :: zs) q scope cl f c X.A.in1.in1 s H pins) body te)
    (hq : SqL X.K H a vs) (h2 : vs.length < 2) (h : keysW te (is.map fun i => (σ[i]?).join) Fin vs [] H) (hg : ∀ ks H, ks.length = vs.length → Fin ks H → FinG X b vs Q ks H)
    (ha1 : argsOk "sorted" ⟨[.ref a], kw⟩) (ha2 : ∀ x, argsOk "list.sort" ⟨[.ref x], kw⟩) (ht : ∀ x, Builtin.«list.sort» ⟨[.ref x], kw⟩ = PyProof.Rows.ksk_tree x (.ref f) b) :
    wpAny (model X.prog X.w) X.A (call (.builtin "sorted") [.ref a] kw) (EP X pins σ Q) X.xe s := by
  obtain ⟨its, rv, pl, _⟩ := I.list hq
  have hlv : its.length = vs.length := rv.length.symm
  obtain ⟨m, F⟩ := I.fr
  have fin : (f, o) ∈ allNews X.base s.heap X.env.locals := by
    obtain ⟨p1, p2, p3, p4, p5⟩ := I.pin (f, o) (List.mem_append_right _ (List.mem_append_right _ (List.mem_singleton.mpr rfl)))
    refine mem_allNews p3 ?_ p1
    cases eb : X.base.get? f with
    | none => rfl
    | some y => exact absurd (Nat.lt_of_lt_of_le (Heap.lt_size eb) (Nat.le_trans I.ok.bsz hf0)) (Nat.lt_irrefl _)
  refine few_sortedK (b := b) (vs := its) (f := .ref f) F (news_all (h := s.heap)) pl.isList (by omega) ha1 ha2 ht fun D kS e1 h' F' N' hDk hlt => ?_
  have nK := N' _ List.mem_cons_self
  have nD := N' _ (List.mem_cons_of_mem _ List.mem_cons_self)
  have fD : f < D := hlt _ fin
  have gD : s.heap.get? D = none := by
    cases e : s.heap.get? D with
    | none => rfl
    | some o => exact absurd (hlt (D, o) (mem_allNews nD.2.1 nD.2.2 e)) (Nat.lt_irrefl _)
  have gK : s.heap.get? kS = none := by
    cases e : s.heap.get? kS with
    | none => rfl
    | some o => exact absurd (Nat.lt_trans hDk (hlt (kS, o) (mem_allNews nK.2.1 nK.2.2 e))) (Nat.lt_irrefl _)
  have s0D : X.s₀.heap.objs.size ≤ D := Nat.le_trans hf0 (Nat.le_of_lt fD)
  have s0K : X.s₀.heap.objs.size ≤ kS := Nat.le_trans s0D (Nat.le_of_lt hDk)
  have zD := I.nil gD
  have zK := I.nil gK
  have N2 : News X.base X.env.locals h' ((kS, seqObj "list" #[] 0) :: rest X.base s.heap X.env.locals kS) := fun p hp => by
    rcases List.mem_cons.mp hp with rfl | hp
    · exact nK
    · exact N' p (List.mem_cons_of_mem _ (List.mem_cons_of_mem _ (List.mem_filter.mp hp).1))
  have I1 : Inv X (pins ++ [(f, o)]) σ H { s with heap := h', toks := s.toks } := I.renew F.ns F' N2 zK.h s0K nK.2.1 zK.cell zK.pin
  have I2 : Inv X ((pins ++ [(f, o), (D, seqObj "list" #[] e1)]) ++ [(kS, seqObj "list" ([] : List Value).toArray 0)]) σ H { s with heap := h', toks := s.toks } := I1.pins_of fun p hp => by
    rcases List.mem_append.mp hp with hp | hp
    · rcases List.mem_append.mp hp with hp | hp
      · exact I1.pin p (List.mem_append_right _ (List.mem_append_left _ hp))
      · rcases List.mem_cons.mp hp with rfl | hp
        · exact I1.pin _ (List.mem_append_right _ (List.mem_append_right _ (List.mem_singleton.mpr rfl)))
        · cases List.mem_singleton.mp hp
          exact ⟨nD.1, zD.h, nD.2.1, zD.fs, fun v z => by cases z⟩
    · cases List.mem_singleton.mp hp
      exact ⟨nK.1, zK.h, nK.2.1, zK.fs, fun v z => by cases z⟩
  have h4 : ∀ p ∈ X.pn ++ (pins ++ [(f, o), (D, seqObj "list" #[] e1)]), p.1 ≠ kS := fun p hp => by
    rcases List.mem_append.mp hp with hp | hp
    · exact zK.pin p (List.mem_append_left _ hp)
    · rcases List.mem_append.mp hp with hp | hp
      · exact zK.pin p (List.mem_append_right _ (List.mem_append_left _ hp))
      · rcases List.mem_cons.mp hp with rfl | hp
        · exact zK.pin _ (List.mem_append_right _ (List.mem_append_right _ (List.mem_singleton.mpr rfl)))
        · cases List.mem_singleton.mp hp
          exact Nat.ne_of_lt hDk
  refine PySem.W.kat_keys_mono (keys_run fr hA hh2 hroom hb he (List.mem_append_right _ List.mem_cons_self) s0K h4 rv .nil I2 F'.ns L h) fun kvs e3 s3 hl3 hfin => ?_
  obtain ⟨ks, H3, J, hm3, rk, fin⟩ := hfin
  have hl3 : kvs.length = vs.length := by rw [hl3, List.length_nil]; omega
  have hlz := rk.length
  obtain ⟨lt, ord, ask, qf⟩ := hg _ _ (by omega) fin
  obtain ⟨p1, p2, p3, p4, p5⟩ := J.pin (kS, seqObj "list" kvs.toArray e3) (List.mem_append_right _ (List.mem_append_right _ (List.mem_singleton.mpr rfl)))
  refine PySem.W.KatFin.intro (J.frM hm3) (news_at p3 nK.2.2 p1) (.head rest_ne) fun h5 c5 F5 N5 => ?_
  have cells : ∀ x c, X.env.cells.lookup x = some c → c ≠ kS := fun x c e z => by
    obtain ⟨v, o, ho, hd⟩ := J.cell x c e
    rw [z, p1] at ho
    cases ho
    exact p5 v hd
  have J5 : Inv X (pins ++ [(f, o), (D, seqObj "list" #[] e1)]) σ H3 { s3 with heap := h5, toks := s3.toks } := (Inv.unpinned J).renew hm3 F5 N5 p2 s0K p3 cells h4
  obtain ⟨d1, d2, d3, d4, d5⟩ := J5.pin (D, seqObj "list" #[] e1) (List.mem_append_right _ (List.mem_append_right _ (List.mem_cons_of_mem _ (List.mem_singleton.mpr rfl))))
  refine PySem.W.KasFin.intro F5 (news_at d3 nD.2.2 d1) (.head rest_ne) fun h6 c6 F6 N6 => ?_
  have J6 : Inv X pins σ H3 { s3 with heap := h5, toks := s3.toks } := J5.unpinned
  have cellsD : ∀ x c, X.env.cells.lookup x = some c → c ≠ D := fun x c e z => by
    obtain ⟨v, o, ho, hd⟩ := J5.cell x c e
    rw [z, d1] at ho
    cases ho
    exact d5 v hd
  have pinD : ∀ p ∈ X.pn ++ pins, p.1 ≠ D := fun p hp => by
    refine zD.pin p ?_
    rcases List.mem_append.mp hp with hp | hp
    · exact List.mem_append_left _ hp
    · exact List.mem_append_right _ (List.mem_append_left _ hp)
  have J7 : Inv X pins σ H3 { s3 with heap := h6, toks := s3.toks } := J6.renew F5.ns F6 N6 d2 s0D d3 cellsD pinD
  have out : Out X pins H3 D := ⟨d2, Heap.get?_none_of_le s0D, d3, cellsD, pinD⟩
  have er : PySem.W.katRev b ((List.range ks.length).map fun i => (PySem.W.katRev b vs).getD i V.non) = vs := by
    have e : (List.range ks.length).map (fun i => vs.getD i V.non) = vs := by
      rw [hlz, hl3]
      refine List.ext_getElem (by simp) fun i h1 h2 => ?_
      simp [h2]
    rw [few_rev b h2, e, few_rev b h2]
  refine ⟨.ref D, upd H3 D (.lst vs), J7.track out ?_, rfl, ?_⟩
  · refine ⟨by have := sizeLine_eq; omega, its, c6, rv, ?_⟩
    exact (N6 _ List.mem_cons_self).1
  · have := qf (List.range ks.length) (List.Perm.refl _) ?_ D d2
    · rw [er] at this; exact this
    · have hn : ks.length < 2 := by omega
      match ks.length, hn with
      | 0, _ => exact .nil
      | 1, _ => exact .cons (fun _ h => by cases h) .nil
      | n + 2, h => exact absurd h (by omega)
theorem sortG_run {b : Bool} {kw : List (Str × Value)} {H : Hp} {s : Shared} {a : Addr} {vs : List V} {Q : VK} {k : Nat} (I : Inv X (pins ++ [(f, o)]) σ H s) (hff : ∀ p ∈ X.pn ++ pins, p.1 ≠ f) (hf0 : X.s₀.heap.objs.size ≤ f) (L : LamIs X.mg H q params body scope cl o)
    (fr : LFrees X x zs is scope cl) (hr : Room k X.A) (hc : X.calm = true)
    (hb : ∀ (c : Addr) (ct u : Value), bindArgs (PySem.W.kla_fn "<lambda>" q params body scope cl ((X.mg "__name__").getD .none) (.ref c) ct) ⟨[u], []⟩ = pure [(x, u)])
    (he : ∀ f c s H pins, PE (lamCx X (x :: zs) q scope cl f c X.A.in1.in1 s H pins) body te)
    (hq : SqL X.K H a vs) (h64 : vs.length < 64) (h : keysW te (is.map fun i => (σ[i]?).join) Fin vs [] H) (hg : ∀ ks H, ks.length = vs.length → Fin ks H → FinG X b vs Q ks H)
    (ha1 : argsOk "sorted" ⟨[.ref a], kw⟩) (ha2 : ∀ x, argsOk "list.sort" ⟨[.ref x], kw⟩) (ht : ∀ x, Builtin.«list.sort» ⟨[.ref x], kw⟩ = PyProof.Rows.ksk_tree x (.ref f) b) :
    wpAny (model X.prog X.w) X.A (call (.builtin "sorted") [.ref a] kw) (EP X pins σ Q) X.xe s := by
  have room : X.A.in1.in1.depth < recursionLimit := by
    have := hr.dp
    show X.A.depth < _
    omega
  have hh := I.ok.hd hc
  by_cases h2 : 2 ≤ vs.length
  · exact sortG_big I hff hf0 L fr hh room I.ok.frames hh hb he hq h2 h64 h hg ha1 ha2 ht
  · exact sortG_few I hff hf0 L fr hh room I.ok.frames hh hb he hq (by omega) h hg ha1 ha2 ht
def tSortK (K : PySem.W.Frag) (P : Addr) (q : Str) (tl te : TE) (is : List Nat) : TE := fun σ H Q => tl σ H fun v H1 => ∃ (a : Addr) (vs : List V) (ps : Array Value) (t : Tok), v = .ref a ∧ SqL K H1 a vs ∧ vs.length < 64 ∧ H1 P = some (.tbl ps) ∧ ps[0]? = some (.str q t) ∧
  ∀ H2, Grow H1 H2 → keysW te (is.map fun i => (σ[i]?).join) (FinT vs Q) vs [] H2
theorem pe_sortK {K : PySem.W.Frag} {c P : Addr} {l : Expr} {tl : TE} {p lpos kpos cpos : Pos} {k : Nat} (hK : X.K = K) (lo : LamOk X c P) (hr : Room k X.A) (hc : X.calm = true) (hg : Gl X "sorted") (hm : X.mg "sorted" = none) (hl : PE X l tl) (fr : LFrees X x zs is scope cl)
    (hq : X.env.qual ++ "<lambda>" = q) (hcl : closureFor scope X.env = pure cl)
    (he : ∀ f c s H pins, PE (lamCx X (x :: zs) q scope cl f c X.A.in1.in1 s H pins) body te)
    (hdef : defaultsOf params X.env = ([], []) := by rfl)
    (hb : ∀ (c : Addr) (ct u : Value), bindArgs (PySem.W.kla_fn "<lambda>" q params body scope cl ((X.mg "__name__").getD .none) (.ref c) ct) ⟨[u], []⟩ = pure [(x, u)] := by intro _ _ _; rfl)
    (hst : starEach [l] X.env = [(false, eval l X.env)] := by rfl) (hv : bootBuiltins "sorted" = some (.builtin "sorted") := by rfl) :
    PE X (.Call (.Name "sorted" p) [l] [⟨some "key", .Lambda params body scope lpos, kpos⟩] cpos) (tSortK K P q tl te is) := by
  subst hK
  intro pins s σ H Q I h
  refine wpAny_Call_Name_kw (ld_blt I hg hm hv ?_ (by decide) (by decide))
  refine PyProof.Rows.callWith_kw (e := l) (rest := []) ?_ (by rw [hst]; rfl) (by rw [hst]; rfl) rfl rfl
  have ha := pa_cons hl pa_nil (hs := by rw [hst]; rfl)
  refine thn (ha cpos pins s σ H (fun xs H1 => match xs with
    | [v] => ∃ (a : Addr) (vs : List V) (ps : Array Value) (t : Tok), v = .ref a ∧ SqL X.K H1 a vs ∧ vs.length < 64 ∧ H1 P = some (.tbl ps) ∧ ps[0]? = some (.str q t) ∧ ∀ H2, Grow H1 H2 → keysW te (is.map fun i => (σ[i]?).join) (FinT vs Q) vs [] H2
    | _ => False) I h) fun us s1 ⟨vs0, H1, I1, r1, q1⟩ => ?_
  match vs0, q1 with
  | [v], q1 =>
  obtain ⟨a, vs, ps, t, rfl, hsq, h64, hP, h0, hw⟩ := q1
  cases r1 with
  | cons r1 r2 =>
  cases r2
  cases (show _ = Value.ref a from r1)
  show wpAny _ _ (evalAll [(do let v ← eval (.Lambda params body scope lpos) X.env; standAt cpos; pure v)]) _ _ s1
  refine wpAny_evalAll_cons (wpAny_bind (thn (lam_make lo I1 hP h0 hq hcl hdef) fun u s2 ⟨f, o, H2, eu, I2, gr, pf, s0f, L⟩ => wpAny_bind (wpAny_standAt (wpAny_pure (wpAny_evalAll_nil ?_)))))
  subst eu
  have hs2 : SqL X.K H2 a vs := by
    rcases hsq with (z | ⟨o, z⟩) | z
    · exact .inl (.inl (gr _ _ z))
    · exact .inl (.inr ⟨o, gr _ _ z⟩)
    · exact .inr z
  exact sortG_run I2 pf s0f L fr hr hc hb he hs2 h64 (hw H2 gr) (fun _ _ hl h => h.g) (PyProof.Rows.ksk_s1 _ _) (fun _ => PyProof.Rows.ksk_l1 _ _) (fun x => PyProof.Rows.ksk_t1 f x)
end
end L2
set_option Elab.async false
set_option linter.all false
set_option maxRecDepth 100000
namespace VL
open PySem L2
open Classical
noncomputable section
variable [Tabs] {K : PySem.W.Frag}
def kR (cs : List Nat) (ρ : Rho) (d : D) : Rho := (r0 1 cs ρ).set 0 (.pu d)
theorem isl_idx {H : Hp} {T : Addr → Prop} {vs : List V} {ds : List D} (h : IsL K H T vs ds) : ∀ {idx : List Nat}, (∀ i ∈ idx, i < ds.length) → IsL K H T (idx.map fun i => vs.getD i .non) (idx.map fun i => ds.getD i .non)
  | [], _ => .nil
  | i :: idx, hl => by
    have hi := hl i List.mem_cons_self
    obtain ⟨v, e1, i1⟩ := h.get (List.getElem?_eq_getElem hi)
    refine .cons ?_ (isl_idx h fun j hj => hl j (List.mem_cons_of_mem _ hj))
    have ev : vs.getD i .non = v := by rw [List.getD_eq_getElem?_getD, e1]; rfl
    have ed : ds.getD i .non = ds[i] := by rw [List.getD_eq_getElem?_getD, List.getElem?_eq_getElem hi]; rfl
    show Is K H T (vs.getD i .non) (ds.getD i .non)
    rw [ev, ed]
    exact i1
end
end VL
set_option Elab.async false
set_option linter.all false
set_option maxRecDepth 100000
namespace L2
open PySem PySem.Spec PyProof.Rows
def tabH (ts : List (Addr × Str)) : Hp := fun b => (ts.lookup b).map fun q => .tbl #[.str q 0]
theorem law_callT {P : Program} {w : World} {K : PySem.W.Frag} {mg mb : Str → Option Value} {CX : CXT} {k : Nat} {fa a : Addr} {fd : FuncData} {x : Str} {sp : Sp} {s₁ : Shared} {vs : List Value} {ns : List Int} (ts : List (Addr × Str))
    (KX : K.In s₁.heap) (hns : s₁.heap.Ns mainGlobals mg) (hb : s₁.heap.Ns builtinsNs mb) (hbb : ∀ x : Str, x ≠ "__name__" → mb x = bootBuiltins x) (hlim : s₁.heap.NoLimit) (hg : s₁.gens = #[]) (hbm : BmOk mg s₁.heap)
    (hts : ∀ p q, ts.lookup p = some q → s₁.heap.get? p = some (PySem.W.tabObj #[]) ∧ K.lookup p = none ∧ ∃ c, PySem.W.CodeHd s₁.heap c p)
    (ha : s₁.heap.get? a = some { cls := .type "list", data := .seq vs.toArray }) (hi : IntsAre vs ns) (hl : ns.length ≤ sizeLine) (hr : Room k callerA)
    (F : ∀ base : Heap, K.In base → base.Ns mainGlobals mg → BmOk mg base → FnOk P w K mg base CX k fa fd [x] sp) (hbind : ∀ (s : Shared) (u : Value), BindsTo s fd ⟨[u], []⟩ [(x, u)])
    (hsp : ∀ H : Hp, (∀ p q, ts.lookup p = some q → H p = some (.tbl #[.str q 0])) → SqL K H a (ns.map V.int) → sp [.ref a] H (fun v _ => v = .bl true) fun _ _ _ => False)
    (hCX : ∀ H e s', CX [] H s₁ (fun _ _ _ => False) e s' → False) :
    codeAny (model P w) callerA (.call (.ref fa) ⟨[.ref a], []⟩) (fun r s' => r = .ok (.ret (.bool true)) ∧ OldK s₁.heap s'.heap ∧ s'.os = s₁.os ∧ AllBare s'.gens) s₁ := by
  have rv := vals_ints hi
  have lenV := hi.length
  have naT : ts.lookup a = none := by
    cases e : ts.lookup a with
    | none => rfl
    | some q => have := (hts a q e).1; rw [ha] at this; cases this
  have core : ∀ H : Hp, (∀ b, b ≠ a → H b = tabH ts b) → (H a = none ∨ ∃ o xs, H a = some (.frz o (.lst xs))) → SqL K H a (ns.map V.int) → HOk P w H s₁.heap → (H a ≠ none → K.lookup a = none) →
      codeAny (model P w) callerA (.call (.ref fa) ⟨[.ref a], []⟩) (fun r s' => r = .ok (.ret (.bool true)) ∧ OldK s₁.heap s'.heap ∧ s'.os = s₁.os ∧ AllBare s'.gens) s₁ := by
    intro H hH hO hS hok hK
    have tabs : ∀ p q, ts.lookup p = some q → H p = some (.tbl #[.str q 0]) := fun p q e => by
      rw [hH p (fun z => by rw [z, naT] at e; cases e)]
      unfold tabH
      rw [e]; rfl
    have isT : ∀ b u, H b = some u → b ≠ a → ∃ q, ts.lookup b = some q := fun b u e hb => by
      rw [hH b hb] at e
      unfold tabH at e
      cases z : ts.lookup b with
      | none => rw [z] at e; cases e
      | some q => exact ⟨q, rfl⟩
    have base_of : ∀ {b : Addr} {o : Obj}, s₁.heap.get? b = some o → H b = none → (hidT s₁.heap H).get? b = some o := fun e n => hidT_get e n
    have none_of : ∀ {b : Addr} {o : Obj}, s₁.heap.get? b = some o → o.cls ≠ .none → (∀ xs n, o.data ≠ .seq xs n) → H b = none := fun {b o} e hc hd => by
      cases q : H b with
      | none => rfl
      | some u =>
        by_cases hba : b = a
        · subst hba
          rw [ha] at e; cases e
          exact absurd rfl (hd _ _)
        · obtain ⟨q', z⟩ := isT b u q hba
          have := (hts b q' z).1
          rw [e] at this
          cases this
          exact absurd rfl hc
    have noA : ∀ {b : Addr} {o : Obj} {es : Array DictEntry} {ep : Nat}, s₁.heap.get? b = some o → o.data = .dict es ep → H b = none := fun {b o es ep} e d => by
      cases q : H b with
      | none => rfl
      | some u =>
        by_cases hba : b = a
        · subst hba
          rw [ha] at e; cases e
          have d' : Data.seq vs.toArray _ = Data.dict es ep := d
          cases d'
        · obtain ⟨q', z⟩ := isT b u q hba
          have := (hts b q' z).1
          rw [e] at this
          cases this
          cases d
    have nsK : ∀ {b : Addr} {m : Str → Option Value}, s₁.heap.Ns b m → (hidT s₁.heap H).Ns b m := fun {b m} ⟨o, es, ep, e, d, r⟩ => ⟨o, es, ep, base_of e (noA e d), d, r⟩
    have hKb : K.In (hidT s₁.heap H) := fun b o e => base_of (KX b o e) (by
      cases q : H b with
      | none => rfl
      | some u =>
        by_cases hba : b = a
        · subst hba
          rw [hK (by rw [q]; simp)] at e; cases e
        · obtain ⟨q', z⟩ := isT b u q hba
          rw [(hts b q' z).2.1] at e; cases e)
    have hBm : BmOk mg (hidT s₁.heap H) := by
      obtain ⟨bm, ob, b1, b2, b3, b4, b5, b6⟩ := hbm
      exact ⟨bm, ob, b1, b2, base_of b3 (none_of b3 (by rw [b4]; exact nofun) fun xs n z => by rw [b6] at z; cases z), b4, b5, b6⟩
    have hM : Mod K mg (hidT s₁.heap H) := ⟨hKb, nsK hns, ⟨mb, nsK hb, hbb⟩, let ⟨mc, h1, h2⟩ := hlim; ⟨mc, nsK h1, h2⟩⟩
    have e0 : Env0 P w K mg (hidT s₁.heap H) callerA [] s₁ H := ⟨rfl, hM, fun b o e => of_hidT e, Nat.le_of_eq (hidT_size _ _), trivial, fun b hb => absurd (show b ∈ ([] : List Addr) from hb) (by simp), hok, .of_eq hg⟩
    refine codeAny_mono ((F _ hKb (nsK hns) hBm).run callerA [] s₁ H ⟨[.ref a], []⟩ [.ref a] [.ref a] _ _ hr e0 (hbind s₁ (.ref a)) (.cons rfl .nil) (hsp H tabs hS)) fun r s' h => ?_
    cases r with
    | error e => exact (hCX H e s' h).elim
    | ok fl =>
      cases fl with
      | next => exact False.elim h
      | brk => exact False.elim h
      | cont => exact False.elim h
      | ret u =>
        obtain ⟨v, H', os, bare, un, hok', r', q⟩ := h
        have q' : v = .bl true := q
        subst q'
        obtain rfl : u = Value.bool true := r'
        have kept : ∀ b o, s₁.heap.get? b = some o → ts.lookup b = none → s'.heap.get? b = some o := fun b o e hn => by
          cases q : H b with
          | none => exact un.keep b o e q (by intro z; exact absurd (show b ∈ ([] : List Addr) from z) (by simp)) (by simp)
          | some u =>
            by_cases hba : b = a
            · subst hba
              rcases hO with z | ⟨ob, xs, z⟩
              · rw [q] at z; cases z
              · have z2 := un.frzs b ob _ z
                obtain ⟨e1, _⟩ := hok b _ z
                obtain ⟨e2, _⟩ := hok' b _ z2
                rw [e] at e1; cases e1
                exact e2
            · obtain ⟨q', z⟩ := isT b u q hba
              rw [hn] at z; cases z
        refine ⟨rfl, ⟨fun b o e => ?_, fun b o e => un.there b o e (by simp)⟩, os, bare⟩
        cases ht : ts.lookup b with
        | none => exact .inl (kept b o e ht)
        | some q =>
          obtain ⟨t1, t2, c, t3⟩ := hts b q ht
          rw [e] at t1
          cases t1
          obtain ⟨more, e2⟩ := un.tbls b _ (tabs b q ht)
          obtain ⟨q2, tk, qs, _, e3, _⟩ := (show ObjOk P w H' s'.heap b (.tbl _) from hok' b _ e2)
          exact .inr (.inl ⟨(t3.tab e).isCodeTable, rfl, #[], qs, rfl, by rw [Array.empty_append]; exact e3⟩)
  have tabOk : ∀ H : Hp, (∀ b, b ≠ a → H b = tabH ts b) → ∀ b u, b ≠ a → H b = some u → ObjOk P w H s₁.heap b u := fun H hH b u hb e => by
    rw [hH b hb] at e
    unfold tabH at e
    cases z : ts.lookup b with
    | none => rw [z] at e; cases e
    | some q =>
      rw [z] at e
      cases e
      exact ⟨q, 0, #[], rfl, (hts b q z).1, trivial, fun pos v ev => by cases ev⟩
  cases hk : K.lookup a with
  | some o =>
    have e := KX a o hk
    rw [ha] at e
    cases e
    have hHa : tabH ts a = none := by unfold tabH; rw [naT]; rfl
    refine core (tabH ts) (fun _ _ => rfl) (.inl hHa) (.inr ⟨_, vs.toArray, _, hk, rfl, rfl, rfl, by rw [List.size_toArray, lenV]; exact hl, by simpa using rv⟩) (fun b u z => ?_) fun z => absurd hHa z
    exact tabOk _ (fun _ _ => rfl) b u (fun w => by rw [w, hHa] at z; cases z) z
  | none =>
    refine core (fun b => if b = a then some (.frz { cls := .type "list", data := .seq vs.toArray } (.lst (ns.map V.int))) else tabH ts b) (fun b hb => if_neg hb) (.inr ⟨_, _, if_pos rfl⟩) (.inl (.inr ⟨{ cls := .type "list", data := .seq vs.toArray }, if_pos rfl⟩)) (fun b u z => ?_) fun _ => hk
    by_cases hba : b = a
    · have z' := (if_pos hba).symm.trans z
      cases z'
      subst hba
      exact ⟨ha, by rw [List.length_map]; exact hl, vs, _, rv, ha⟩
    · exact tabOk _ (fun b hb => if_neg hb) b u hba z
theorem walk_ofT {l : PySem.W.OpenLaw} {n k : Nat} {q : Program} {loose : List Str} {XP : (Str → Option Value) → Heap → Prop} {YP : World → Heap → Prop} {d : DefRec} {K : Params → PySem.W.Frag} {CX : World → CXT} {sp : World → Sp} {x : Str} (ts : List (Addr × Str))
    (hn : l.most = some n) (hn2 : n ≤ sizeLine) (hdf : d.params.defaults = []) (hr : Room k callerA)
    (hY : ∀ (w : World) (h : Heap), YP w h → (K w.params).In h)
    (hT : ∀ (w : World) (h : Heap), YP w h → ∀ p q, ts.lookup p = some q → h.get? p = some (PySem.W.tabObj #[]))
    (hN : ∀ (w : World) p q, ts.lookup p = some q → (K w.params).lookup p = none ∧ ∃ c, PySem.W.codeHdIn (K w.params) c p = true)
    (F : ∀ (w : World) (mg : Str → Option Value) (fa : Addr) (h : Heap), (K w.params).In h → h.Ns mainGlobals mg → mg d.name = some (.ref fa) →
      ∃ fd : FuncData, (∀ (s : Shared) (u : Value), BindsTo s fd ⟨[u], []⟩ [(x, u)]) ∧
        ∀ base : Heap, (K w.params).In base → base.Ns mainGlobals mg → BmOk mg base → FnOk l.prog w (K w.params) mg base (CX w) k fa fd [x] (sp w))
    (hsp : ∀ (w : World) (H : Hp) (a : Addr) (ns : List Int), ns.length ≤ n → (∀ m ∈ ns, Builtin.Int.intBits m ≤ 1048576) → (∀ p q, ts.lookup p = some q → H p = some (.tbl #[.str q 0])) → SqL (K w.params) H a (ns.map V.int) → sp w [.ref a] H (fun v _ => v = .bl true) fun _ _ _ => False)
    (hCX : ∀ (w : World) (H : Hp) (s : Shared) (e : Value) (s' : Shared), CX w [] H s (fun _ _ _ => False) e s' → False) :
    PySem.W.WalkO q loose XP YP l.row.toRowW d [] (fun f vs => PySem.call f vs) := by
  intro w s₀ s₁ mg mb G Y fa o pm cd doc dV kV ho hd hcd hD hmg hg args vals as hpre hlay hrd hwl hlo
  obtain rfl : dV = .none := PySem.W.Dflts.none hD hdf
  obtain rfl : kV = .none := PySem.W.Dflts.noKw hD
  obtain ⟨a, vs, ns, rfl, rfl, hobj, hints, hlen⟩ := Att.script_of hn hpre hwl
  have KX := hY w _ Y
  obtain ⟨fd, hb, hF⟩ := F w mg fa _ KX G.T.g hmg
  refine PySem.W.enter_call (codeAny_mono (law_callT ts KX G.T.g G.T.b G.T.builtins G.T.nolimit hg G.T.bmain (fun p q e => ⟨hT w _ Y p q e, (hN w p q e).1, let ⟨c, h⟩ := (hN w p q e).2; ⟨c, PySem.W.codeHd_of_K KX h⟩⟩) hobj hints (Nat.le_trans hlen hn2) hr hF hb (fun H hO hS => hsp w H a ns hlen (bits_of_lay hlay) hO hS) fun H e s' => hCX w H s₁ e s') fun r s' hq => ?_)
  obtain ⟨rfl, h2, h3, h4⟩ := hq
  exact ⟨.inl ⟨.bool true, .bool true, [], rfl, fun _ => rfl, .bool true, Att.post_true l _, fun _ => ⟨List.Pairwise.nil, fun _ hm => (nomatch hm)⟩⟩, h2, h3, h4⟩
end L2
set_option Elab.async false
set_option linter.all false
set_option maxRecDepth 100000
namespace L2
open PySem PySem.Spec PyProof.Rows
end L2
namespace VL
open PySem L2
open Classical
noncomputable section
variable [Tabs] {K : PySem.W.Frag}
end
end VL
set_option Elab.async false
set_option linter.all false
set_option maxRecDepth 100000
namespace L2
open PySem PySem.Spec PyProof.Rows
theorem Fun.okC {P : Program} {w : World} {K : PySem.W.Frag} {mg : Str → Option Value} {base : Heap} {x qual : Str} {st : Stmt} {f : Addr} {fd : FuncData} {N ps : List Str} {k : Nat} {sp : Sp} (F : Fun K x qual st f fd) (S : FnScope N ps (defScope st)) (len : ∀ vs H Q E, sp vs H Q E → vs.length = ps.length)
    (hbody : ∀ (cdv : Value), fd.code = cdv → ∀ (A : Around) (outer : List Env) (s : Shared) (H : Hp) (vs : List V) (Q : VK) (E : XK), Room k (A.deeper (envOfC qual (defScope st) s.heap.objs.size f cdv)) → sp vs H Q E →
      ∃ t, PSs (cxOf CX0 P w K mg base N qual (defScope st) f cdv A outer s H E).nox (defBody st) t ∧ t { nx := fun _ H' => Q .non H', rt := Q } (start N vs) H) : FnOk P w K mg base CX0 (k + 1) f fd ps sp := by
  obtain ⟨oc, od, kV, doc, pm, an, cdv, ct, osl, rfl, lk, hcd⟩ := F.ex
  refine fn_of lk hcd S len fun A outer s H vs Q E hr hsp => ?_
  obtain ⟨t, h, q⟩ := hbody cdv rfl A outer s H vs Q E hr hsp
  exact ⟨t, h.nox, q⟩
end L2
namespace VL
open PySem L2
open Classical
noncomputable section
variable [Tabs] {K : PySem.W.Frag}
end
end VL
set_option Elab.async false
set_option linter.all false
set_option maxRecDepth 100000
namespace PySem.SeqAt
open AutoSeq1 (wpAny_loadPart')
open MeetsSeq MeetsSeq2 MeetsSeq3
def LtAt (A : Around) (s : Shared) (y x : Value) (b : Bool) : Prop :=
  ∀ (prog : Program) (w : World) (E : Value → Shared → Prop) (Q : Value → Shared → Prop), Q (.bool b) s → wpAny (model prog w) A (richCompare .Lt y x) Q E s
def lexAt (e l : Nat → Bool) (fin : Bool) : Nat → Nat → Bool
  | 0, _ => fin
  | k + 1, i => if e i = true then lexAt e l fin k (i + 1) else l i
theorem lt_loopAt (l b : Addr) (items items2 : Array Value) (n n2 : Nat) (dd dd2 : Option Addr) (sl sl2 : Array (Option Value)) (e lt : Nat → Bool) (k : Nat) :
    ∀ i : Nat, i ≤ min items.size items2.size → min items.size items2.size - i = k → Meets (Builtin.«list.__eq__.loop» ⟨[.ref l, .ref b, rawInt i, rawInt 0], []⟩)
      (fun A R s => s.heap.get? l = some { cls := .type "list", dict := dd, data := .seq items n, slots := sl } ∧ s.heap.get? b = some { cls := .type "list", dict := dd2, data := .seq items2 n2, slots := sl2 } ∧
        (∀ j (h1 : j < items.size) (h2 : j < items2.size), EqAt A.in1 s items[j] items2[j] (e j)) ∧ (∀ j (h1 : j < items.size) (h2 : j < items2.size), e j = false → LtAt A.in1 s items[j] items2[j] (lt j)) ∧
        R (.ok (.ret (.bool (lexAt e lt (decide (items.size < items2.size)) k i)))) s) := by
  induction k with
  | zero =>
    intro i hi hk prog w A R s h
    obtain ⟨hp, g, d, tk, os⟩ := s; obtain ⟨hl, hb, he, hlt, h⟩ := h
    wp_walk using wpAny_loadPart' hl, wpAny_loadPart' hb
    by_cases hc : items.size ≤ i
    · have hi1 : items[((i : Nat) : Int).toNat]? = none := by simp; omega
      rw [hi1]
      wp_walk using wpAny_loadPart' hl, wpAny_loadPart' hb
      exact h
    · have hi2 : items2[((i : Nat) : Int).toNat]? = none := by simp; omega
      have hi1 : items[((i : Nat) : Int).toNat]? = some (items[i]'(by omega)) := by simp
      rw [hi1, hi2]
      wp_walk using wpAny_loadPart' hl, wpAny_loadPart' hb
      exact h
  | succ k ih =>
    intro i hi hk prog w A R s h
    obtain ⟨hp, g, d, tk, os⟩ := s; obtain ⟨hl, hb, he, hlt, h⟩ := h
    wp_walk using wpAny_loadPart' hl, wpAny_loadPart' hb
    have hlt1 : i < items.size := by omega
    have hlt2 : i < items2.size := by omega
    have hi1 : items[((i : Nat) : Int).toNat]? = some items[i] := by simp [hlt1]
    have hi2 : items2[((i : Nat) : Int).toNat]? = some items2[i] := by simp [hlt2]
    have hc : ((i : Int) + 1) = ((i + 1 : Nat) : Int) := by push_cast; rfl
    unfold lexAt at h
    rw [hi1, hi2]
    refine wpAny_bind (he i hlt1 hlt2 prog w _ _ ?_)
    cases hb' : e i with
    | true =>
      rw [hb', if_pos rfl] at h
      wp_walk
      rw [hc]
      exact ⟨plainId_quiet plain_eq_loop _, codeAny_builtin entry_eq_loop (by
        rw [Around.under_plainId plain_eq_loop _]
        exact ih (i + 1) (by omega) (by omega) prog w A R _ ⟨hl, hb, he, hlt, h⟩)⟩
    | false =>
      rw [hb', if_neg Bool.false_ne_true] at h
      wp_walk using wpAny_loadPart' hl, wpAny_loadPart' hb
      rw [hi1, hi2]
      dsimp only
      refine wpAny_bind (hlt i hlt1 hlt2 hb' prog w _ _ ?_)
      wp_walk
      exact h
theorem list_ltAt (l b : Addr) (items items2 : Array Value) (n n2 : Nat) (dd dd2 : Option Addr) (sl sl2 : Array (Option Value)) (e lt : Nat → Bool) :
    Meets (Builtin.«list.__lt__» ⟨[.ref l, .ref b], []⟩)
      (fun A R s => s.heap.get? l = some { cls := .type "list", dict := dd, data := .seq items n, slots := sl } ∧ s.heap.get? b = some { cls := .type "list", dict := dd2, data := .seq items2 n2, slots := sl2 } ∧
        (∀ j (h1 : j < items.size) (h2 : j < items2.size), EqAt A.in1 s items[j] items2[j] (e j)) ∧ (∀ j (h1 : j < items.size) (h2 : j < items2.size), e j = false → LtAt A.in1 s items[j] items2[j] (lt j)) ∧
        R (.ok (.ret (.bool (lexAt e lt (decide (items.size < items2.size)) (min items.size items2.size) 0)))) s) := by
  intro prog w A R s h
  obtain ⟨hp, g, d, tk, os⟩ := s; obtain ⟨hl, hb, he, hlt, h⟩ := h
  have f3 := AutoSeq1.sub_list_list
  wp_walk using wpAny_loadPart' hl, wpAny_loadPart' hb
  exact ⟨plainId_quiet plain_eq_loop _, codeAny_builtin entry_eq_loop (by
    rw [Around.under_plainId plain_eq_loop _]
    exact lt_loopAt l b items items2 n n2 dd dd2 sl sl2 e lt _ 0 (Nat.zero_le _) rfl prog w A R _ ⟨hl, hb, he, hlt, h⟩)⟩
section
variable {A : Around} {s : Shared}
theorem LtAt.ints (a b : Int) (t u : Tok) : LtAt A s (.int a t) (.int b u) (decide (a < b)) := fun prog w E Q h => PyProof.Rows.lt_int h
end
end PySem.SeqAt
namespace VL
open PySem L2
open Classical
noncomputable section
variable {K : PySem.W.Frag}
section
variable {X : Cx} {pins : List (Addr × Obj)} {σ : L2.St} {H : Hp} {s : Shared}
end
end
end VL
set_option Elab.async false
set_option linter.all false
set_option maxRecDepth 100000
namespace L2
open PySem PySem.Spec PyProof.Rows VL
section
variable {X : Cx} {pins P0 P1 : List (Addr × Obj)} {σ : St} {H : Hp} {s : Shared} {h' : Heap} {a : Addr} {oa oa' : Obj} {t' : Nat}
end
section
variable {X : Cx} {pins : List (Addr × Obj)} {σ : St} {f : Addr} {o : Obj} {q : Str} {params : Arguments} {body : Expr} {scope : Scope} {cl : List (Str × Addr)} {x : Str} {zs : List Str} {is : List Nat} {te : TE} {Fin : V → Hp → Prop} {kw : List (Str × Value)} {l I S : Addr} {vs : List V}
end
end L2
set_option Elab.async false
set_option linter.all false
set_option maxRecDepth 100000
namespace L2
open PySem PySem.Spec PyProof.Rows VL
section
variable {X : Cx} {pins : List (Addr × Obj)} {σ : St} {q : Str} {params : Arguments} {body : Expr} {scope : Scope} {cl : List (Str × Addr)} {x : Str} {zs : List Str} {is : List Nat} {te : TE}
end
end L2
namespace VL
open PySem L2
open Classical
noncomputable section
variable [Tabs] {K : PySem.W.Frag}
end
end VL
set_option Elab.async false
set_option linter.all false
set_option maxRecDepth 100000
namespace L2
open PySem PySem.Spec PyProof.Rows
section
variable {X : Cx} {pins : List (Addr × Obj)} {σ : St} {m : Str → Option Value} {kS f : Addr} {o : Obj} {q : Str} {params : Arguments} {body : Expr} {scope : Scope} {cl : List (Str × Addr)} {A : Around} {x : Str} {zs : List Str} {is : List Nat} {te : TE} {Fin : List V → Hp → Prop}
end
end L2
set_option Elab.async false
set_option linter.all false
set_option maxRecDepth 100000
namespace VL
open PySem L2
open Classical
noncomputable section
variable [Tabs] {K : PySem.W.Frag}
end
end VL
set_option Elab.async false
set_option linter.all false
set_option maxRecDepth 100000
namespace VL
open PySem L2
open Classical
noncomputable section
variable [Tabs] {K : PySem.W.Frag} {fr : Fm}
end
end VL
set_option Elab.async false
set_option linter.all false
set_option maxRecDepth 100000
namespace PySem.SeqAt
theorem oneLt_list {prog : Program} {w : World} {A : Around} {E : Value → Shared → Prop} {Q : Bool → Shared → Prop} {s : Shared} {l b : Addr} {items items2 : Array Value} {e lt : Nat → Bool} (hl : s.heap.IsList l items) (hb : s.heap.IsList b items2) (hu : A.units < cLine)
    (he : ∀ j (h1 : j < items.size) (h2 : j < items2.size), EqAt A.in1 s items[j] items2[j] (e j)) (hlt : ∀ j (h1 : j < items.size) (h2 : j < items2.size), e j = false → LtAt A.in1 s items[j] items2[j] (lt j)) (h : Q (lexAt e lt (decide (items.size < items2.size)) (min items.size items2.size) 0) s) :
    wpAny (model prog w) A (PyProof.Rows.oneLt' true (.ref l) (.ref b)) Q E s := by
  obtain ⟨⟨cls, dd, data, sl⟩, ho, hc, n, hd⟩ := id hl
  obtain ⟨⟨cls2, dd2, data2, sl2⟩, ho2, hc2, n2, hd2⟩ := id hb
  simp only at hc hd hc2 hd2
  subst hc hd hc2 hd2
  rw [PyProof.Rows.oneLt'_eq]
  simp only [if_true]
  refine wpAny_bind (wpAny_cRoomFor hu ?_)
  refine wpAny_bind (wpAny_callSpecialIfBound?_slot ⟨_, ho, rfl⟩ F.slot_list_lt (call_meets F.slot_list_lt ⟨_, ho, rfl⟩ F.entry_list_lt (F.args_list_lt_2 _ _) (list_ltAt l b items items2 n n2 dd dd2 sl sl2 e lt) ⟨ho, ho2, he, hlt, ?_⟩))
  exact wpAny_truthy_bool h
end PySem.SeqAt
namespace L2
open PySem PySem.Spec PyProof.Rows
theorem lexAt_lexLt (ds es : List Int) : ∀ k i, i ≤ min ds.length es.length → min ds.length es.length - i = k → SeqAt.lexAt (fun j => ds.getD j 0 == es.getD j 0) (fun j => decide (ds.getD j 0 < es.getD j 0)) (decide (ds.length < es.length)) k i = lexLt (ds.drop i) (es.drop i)
  | 0, i, hi, hk => by
    unfold SeqAt.lexAt
    by_cases h1 : ds.length ≤ es.length
    · have e1 : ds.drop i = [] := List.drop_of_length_le (by omega)
      rw [e1]
      by_cases h2 : ds.length < es.length
      · rw [List.drop_eq_getElem_cons (show i < es.length by omega), decide_eq_true h2]; rfl
      · have e2 : es.drop i = [] := List.drop_of_length_le (by omega)
        rw [e2, decide_eq_false h2]; rfl
    · have e2 : es.drop i = [] := List.drop_of_length_le (by omega)
      rw [e2, List.drop_eq_getElem_cons (show i < ds.length by omega), decide_eq_false (by omega)]; rfl
  | k + 1, i, hi, hk => by
    have h1 : i < ds.length := by omega
    have h2 : i < es.length := by omega
    unfold SeqAt.lexAt
    rw [List.drop_eq_getElem_cons h1, List.drop_eq_getElem_cons h2, lexAt_lexLt ds es k (i + 1) (by omega) (by omega)]
    have g1 : ds.getD i 0 = ds[i] := by rw [List.getD_eq_getElem?_getD, List.getElem?_eq_getElem h1]; rfl
    have g2 : es.getD i 0 = es[i] := by rw [List.getD_eq_getElem?_getD, List.getElem?_eq_getElem h2]; rfl
    rw [g1, g2]
    show _ = if ds[i] = es[i] then lexLt (ds.drop (i + 1)) (es.drop (i + 1)) else decide (ds[i] < es[i])
    by_cases c : ds[i] = es[i]
    · rw [if_pos c, if_pos (by simpa using c)]
    · rw [if_neg c, if_neg (by simpa using c)]
def LstZ (H : Hp) (ps : List Addr) (zs : List (List Int)) : Prop := Paired (fun p z => Rd H p (.lst (z.map V.int))) ps zs
def rSortL (K : PySem.W.Frag) : List V → Hp → VK → Prop := fun xs H Q => ∃ (a : Addr) (ps : List Addr) (zs : List (List Int)), xs = [.ref a] ∧ SqL K H a (ps.map V.ref) ∧ LstZ H ps zs ∧ 2 ≤ zs.length ∧ zs.length < 64 ∧
  ∀ idx : List Nat, idx.Perm (List.range zs.length) → (idx.Pairwise fun i j => lexLt (zs.getD j []) (zs.getD i []) = false) → ∀ D, H D = none → Q (.ref D) (upd H D (.lst (idx.map fun i => V.ref (ps.getD i 0))))
theorem call_sortL {X : Cx} {K : PySem.W.Frag} {k : Nat} (hK : X.K = K) (hx : X.ex = []) (hr : Room k X.A) : CallR X (.builtin "sorted") (rSortL K) := by
  subst hK
  intro pins s σ H xs us Q I r h
  obtain ⟨a, ps, zs, rfl, hq, tz, h2, h64, q⟩ := h
  cases r with
  | cons r1 r =>
    cases r
    cases (show _ = Value.ref a from r1)
    obtain ⟨its, rv, pl, _⟩ := I.list hq
    have ei := refs_of rv
    subst ei
    have hl : ps.length = zs.length := Paired.length tz
    obtain ⟨m, F⟩ := I.fr
    have at_ : ∀ i, i < zs.length → ∃ p z, ps[i]? = some p ∧ zs[i]? = some z ∧ Rd H p (.lst (z.map V.int)) := fun i hi => by
      obtain ⟨p, e1, g1⟩ := VL.Paired.getF tz (List.getElem?_eq_getElem hi)
      exact ⟨p, _, e1, List.getElem?_eq_getElem hi, g1⟩
    have hne : ∀ {p : Addr} {z : List Int}, Rd H p (.lst (z.map V.int)) → H p ≠ none := fun {p z} h e => by
      rcases h with h | ⟨o, h⟩
      · rw [h] at e; cases e
      · rw [h] at e; cases e
    have keepN : ∀ (h' : Heap), News X.base X.env.locals h' (allNews X.base s.heap X.env.locals) → ∀ p o, H p ≠ none → s.heap.get? p = some o → h'.get? p = some o := fun h' N' p o hp e => by
      have hb : p ≠ X.env.locals := fun z => hp (by rw [z]; exact I.free)
      cases eb : X.base.get? p with
      | some y => exact absurd (I.bs p y eb).2 hp
      | none => exact (N' (p, o) (mem_allNews hb eb e)).1
    have it : ∀ (h' : Heap), News X.base X.env.locals h' (allNews X.base s.heap X.env.locals) → ∀ i, i < zs.length → ∃ p z us n, ps[i]? = some p ∧ zs[i]? = some z ∧ h'.get? p = some { cls := .type "list", data := .seq us.toArray n } ∧ IntsAre us z := fun h' N' i hi => by
      obtain ⟨p, z, e1, e2, g⟩ := at_ i hi
      obtain ⟨_, us, n, k1, _, o1⟩ := I.lstR g
      exact ⟨p, z, us, n, e1, e2, keepN h' N' p _ (hne g) o1, intsAre_of k1⟩
    refine PySem.W.kas_sorted (T := .type "list") (vs := ps.map Value.ref) F (news_all (h := s.heap)) pl.isList (by rw [List.length_map]; omega) (by rw [List.length_map]; omega) (fun h' F' N' v hv => ?_) (by decide) fun D e1 h' F' N' hlt => ?_
    · obtain ⟨p, hp, rfl⟩ := List.mem_map.mp hv
      obtain ⟨i, hi, rfl⟩ := List.mem_iff_getElem.mp hp
      obtain ⟨p', z, us, n, e1, e2, o1, _⟩ := it h' N' i (by omega)
      rw [List.getElem?_eq_getElem hi] at e1
      cases e1
      exact (PySem.W.Looks.ld o1).andThen PySem.W.Looks.now
    · have N0 : News X.base X.env.locals h' (allNews X.base s.heap X.env.locals) := fun p hp => N' p (List.mem_cons_of_mem _ hp)
      rw [List.length_map, hl]
      refine Srt.KOk.wp (lt := fun i j => lexLt (zs.getD i []) (zs.getD j [])) (N := zs.length) (fun i j C hi hj hC => ?_) _ (Srt.KOk.mono (fun p hp => ?_) _ (Srt.sort_ok (lex_ord fun i => zs.getD i []) (by omega)))
      · obtain ⟨p, z, us, n, e1, e2, k1, k4⟩ := it h' N0 i hi
        obtain ⟨p', z', us', n', e1', e2', k1', k4'⟩ := it h' N0 j hj
        have ei : (ps.map Value.ref).getD i Value.none = .ref p := by rw [List.getD_eq_getElem?_getD, List.getElem?_map, e1]; rfl
        have ej : (ps.map Value.ref).getD j Value.none = .ref p' := by rw [List.getD_eq_getElem?_getD, List.getElem?_map, e1']; rfl
        have zi : zs.getD i [] = z := by rw [List.getD_eq_getElem?_getD, e2]; rfl
        have zj : zs.getD j [] = z' := by rw [List.getD_eq_getElem?_getD, e2']; rfl
        unfold PySem.W.kas_ask
        rw [ei, ej]
        rw [zi, zj] at hC
        have l1 := IntsAre.length k4
        have l2 := IntsAre.length k4'
        rw [PyProof.Rows.keyLt'_oneType]
        have iat : ∀ {us : List Value} {z : List Int}, IntsAre us z → ∀ j (h : j < us.toArray.size), ∃ t, us.toArray[j] = .int (z.getD j 0) t := fun {us z} k j h => by
          have rk := vals_ints k
          have hj : j < z.length := by rw [List.size_toArray] at h; have := IntsAre.length k; omega
          have e : (z.map V.int)[j]? = some (.int (z.getD j 0)) := by rw [List.getElem?_map, List.getD_eq_getElem?_getD, List.getElem?_eq_getElem hj]; rfl
          obtain ⟨u, eu, t, rfl⟩ := rk.get e
          refine ⟨t, ?_⟩
          have : us[j]? = some us[j] := List.getElem?_eq_getElem (by simpa using h)
          rw [this] at eu
          simpa using eu
        refine SeqAt.oneLt_list (items := us.toArray) (items2 := us'.toArray) (e := fun j => z.getD j 0 == z'.getD j 0) (lt := fun j => decide (z.getD j 0 < z'.getD j 0)) ⟨_, k1, rfl, _, rfl⟩ ⟨_, k1', rfl, _, rfl⟩ (by have := hr.un; show X.A.units + 1 + 1 < _; omega) (fun j h1 h2 => ?_) (fun j h1 h2 _ => ?_) ?_
        · obtain ⟨t, e⟩ := iat k4 j h1
          obtain ⟨t', e'⟩ := iat k4' j h2
          rw [e, e']
          exact SeqAt.EqAt.int_int _ t _ t'
        · obtain ⟨t, e⟩ := iat k4 j h1
          obtain ⟨t', e'⟩ := iat k4' j h2
          rw [e, e']
          exact SeqAt.LtAt.ints _ _ t t'
        · rw [List.size_toArray, List.size_toArray, l1, l2, lexAt_lexLt z z' (min z.length z'.length) 0 (Nat.zero_le _) rfl]
          exact hC
      · obtain ⟨pm, up⟩ := hp
        have hlen : p.toList.length = zs.length := by rw [pm.length_eq, List.length_range]
        have lt_ : ∀ i ∈ p.toList, i < zs.length := fun i hi => List.mem_range.mp (pm.mem_iff.mp hi)
        refine PySem.W.KasFin.intro F' N' (.head fun q hq => Nat.ne_of_lt (hlt q hq)) fun h'' c F'' N'' => ?_
        have nD := N' _ List.mem_cons_self
        have hD : s.heap.get? D = none := by
          cases e : s.heap.get? D with
          | none => rfl
          | some o => exact absurd (hlt (D, o) (mem_allNews nD.2.1 nD.2.2 e)) (Nat.lt_irrefl _)
        have hn : H D = none := (I.out hx hD).h
        have eo : (p.toList.map fun i => (ps.map Value.ref).getD i Value.none) = (p.toList.map fun i => ps.getD i 0).map Value.ref := by
          rw [List.map_map]
          refine List.map_congr_left fun i hi => ?_
          have h1 : i < ps.length := by rw [hl]; exact lt_ i hi
          show (ps.map Value.ref).getD i Value.none = Value.ref (ps.getD i 0)
          rw [List.getD_eq_getElem?_getD, List.getElem?_map, List.getElem?_eq_getElem h1, List.getD_eq_getElem?_getD, List.getElem?_eq_getElem h1]
          rfl
        have ev : (p.toList.map fun i => V.ref (ps.getD i 0)) = (p.toList.map fun i => ps.getD i 0).map V.ref := by rw [List.map_map]; rfl
        refine ⟨.ref D, upd H D (.lst (p.toList.map fun i => V.ref (ps.getD i 0))), I.newsLaid (t' := s.toks) hx F F'' N'' hD ?_, rfl, q p.toList pm ?_ D hn⟩
        · rw [eo] at N''
          refine ⟨by rw [List.length_map, hlen]; have := sizeLine_eq; omega, (p.toList.map fun i => ps.getD i 0).map Value.ref, c, by rw [ev]; exact vals_refs _, ?_⟩
          exact (N'' _ List.mem_cons_self).1
        · rw [List.pairwise_iff_getElem]
          intro i j hi hj hij
          have hu := up i j (by omega) (by omega)
          have gi : Srt.g p i = p.toList[i] := by unfold Srt.g; rw [Array.getD_eq_getD_getElem?, Array.getElem?_eq_getElem (by simpa using hi)]; rfl
          have gj : Srt.g p j = p.toList[j] := by unfold Srt.g; rw [Array.getD_eq_getD_getElem?, Array.getElem?_eq_getElem (by simpa using hj)]; rfl
          rw [gi, gj] at hu
          exact hu
end L2
set_option Elab.async false
set_option linter.all false
set_option maxRecDepth 100000
namespace L2
open PySem PySem.Spec PyProof.Rows
def rSrtL (K : PySem.W.Frag) : List V → Hp → VK → Prop := fun xs H Q => rSortL K xs H Q ∨ rSort1 K xs H Q
theorem call_srtL {X : Cx} {K : PySem.W.Frag} {k : Nat} (hK : X.K = K) (hx : X.ex = []) (hr : Room k X.A) : CallR X (.builtin "sorted") (rSrtL K) := CallR.or (call_sortL hK hx hr) (call_sort01 hK)
end L2
namespace VL
open PySem L2
open Classical
noncomputable section
variable [Tabs] {K : PySem.W.Frag}
def lstD (z : List Int) : D := .lst (z.map D.int)
omit [Tabs] in
theorem lstD_inj (a b : List Int) (h : lstD a = lstD b) : a = b := by
  unfold lstD at h
  injection h with h
  exact mapInt_inj h
def dSrtL (a : DE) : Rho → Option (List D) := fun ρ => match asL a ρ with
  | some ds => if h : ∃ zs : List (List Int), ds = zs.map lstD ∧ zs.length < 64 then some ((srtZ h.choose).map lstD) else none
  | none => none
omit [Tabs] in
theorem dSrtL_of {a : DE} {ρ : Rho} {zs : List (List Int)} (e : asL a ρ = some (zs.map lstD)) (hl : zs.length < 64) : dSrtL a ρ = some ((srtZ zs).map lstD) := by
  have h : ∃ zs' : List (List Int), zs.map lstD = zs'.map lstD ∧ zs'.length < 64 := ⟨zs, rfl, hl⟩
  unfold dSrtL
  rw [e]
  show (if h : ∃ zs' : List (List Int), zs.map lstD = zs'.map lstD ∧ zs'.length < 64 then some ((srtZ h.choose).map lstD) else none) = _
  rw [dif_pos h, ← (List.map_inj_right lstD_inj).mp h.choose_spec.1]
omit [Tabs] in
theorem dSrtL_some {a : DE} {ρ : Rho} {ds : List D} (q : dSrtL a ρ = some ds) : ∃ zs, asL a ρ = some (zs.map lstD) ∧ zs.length < 64 ∧ ds = (srtZ zs).map lstD := by
  unfold dSrtL at q
  split at q
  · rename_i es e
    split at q
    · rename_i h
      cases q
      exact ⟨h.choose, by rw [e]; exact congrArg some h.choose_spec.1, h.choose_spec.2, rfl⟩
    · cases q
  · cases q
theorem isl_lsts {H : Hp} {T : Addr → Prop} : ∀ {zs : List (List Int)} {vs : List V}, IsL K H T vs (zs.map lstD) → ∃ ps : List Addr, vs = ps.map V.ref ∧ LstZ H ps zs
  | [], _, .nil => ⟨[], rfl, .nil⟩
  | z :: zs, _, .cons h r => by
    obtain ⟨ps, rfl, hp⟩ := isl_lsts r
    obtain ⟨p, us, rfl, hz, hr, hl, i⟩ := (show Is K H T _ (.lst (z.map D.int)) from h).isLst
    have e := IsL.ints i
    subst e
    exact ⟨p :: ps, rfl, .cons hr hp⟩
omit [Tabs] in
theorem srtZ_idx {zs : List (List Int)} {idx : List Nat} (pm : idx.Perm (List.range zs.length)) (up : idx.Pairwise fun i j => L2.lexLt (zs.getD j []) (zs.getD i []) = false) : idx.map (fun i => zs.getD i []) = srtZ zs := by
  refine srtZ_uniq ?_ ?_
  · have := pm.map fun i => zs.getD i []
    rw [range_getD] at this
    exact this
  · exact List.pairwise_map.mpr up
omit [Tabs] in
theorem srtZ_few {zs : List (List Int)} (h : ¬ 2 ≤ zs.length) : zs = srtZ zs := by
  refine srtZ_uniq (List.Perm.refl _) ?_
  match zs, h with
  | [], _ => exact .nil
  | [z], _ => exact .cons (fun _ h => by cases h) .nil
  | _ :: _ :: _, h => exact absurd (by simp) h
theorem isl_pickL {H : Hp} {T : Addr → Prop} {ps : List Addr} {zs : List (List Int)} (il : IsL K H T (ps.map V.ref) (zs.map lstD)) {idx : List Nat} (hi : ∀ i ∈ idx, i < zs.length) : IsL K H T (idx.map fun i => V.ref (ps.getD i 0)) ((idx.map fun i => zs.getD i []).map lstD) := by
  have hl := il.length
  rw [List.length_map, List.length_map] at hl
  have := isl_idx il (idx := idx) (fun i h => by rw [List.length_map]; exact hi i h)
  have e1 : (idx.map fun i => (ps.map V.ref).getD i .non) = idx.map fun i => V.ref (ps.getD i 0) := List.map_congr_left fun i h => by
    have := hi i h
    rw [List.getD_eq_getElem?_getD, List.getElem?_map, List.getElem?_eq_getElem (by omega), List.getD_eq_getElem?_getD, List.getElem?_eq_getElem (by omega)]; rfl
  have e2 : (idx.map fun i => (zs.map lstD).getD i .non) = (idx.map fun i => zs.getD i []).map lstD := by
    rw [List.map_map]
    exact List.map_congr_left fun i h => by
      have := hi i h
      show (zs.map lstD).getD i .non = lstD (zs.getD i [])
      rw [List.getD_eq_getElem?_getD, List.getElem?_map, List.getElem?_eq_getElem (by omega), List.getD_eq_getElem?_getD, List.getElem?_eq_getElem (by omega)]; rfl
  rw [e1, e2] at this
  exact this
theorem sf_srtL {ta : TE} {a : DE} (ha : SemI K ta a) : SemF K (tCB (rSrtL K) (tCons ta tNil)) (dSrtL a) := fun {B Z os ρ σ H Q ds} f q k => by
  obtain ⟨zs, e, hl, rfl⟩ := dSrtL_some q
  obtain ⟨d, e, ed⟩ := asL_some e
  refine ha f e fun v H1 s1 i1 => ?_
  obtain ⟨p, vs, rfl, hlv, hn, hr⟩ := i1.seq ed
  obtain ⟨hq, il⟩ := hr H1 _ Kp.refl
  obtain ⟨ps, rfl, hp⟩ := isl_lsts il
  have hpl : ps.length = zs.length := Paired.length hp
  have hs : sizeLine = 16777216 := sizeLine_eq
  by_cases h2 : 2 ≤ zs.length
  · refine .inl ⟨p, ps, zs, rfl, hq, hp, h2, hl, fun idx pm up D hD => ?_⟩
    have lt_ : ∀ i ∈ idx, i < zs.length := fun i hi => List.mem_range.mp (pm.mem_iff.mp hi)
    have il2 := isl_pickL il lt_
    rw [srtZ_idx pm up] at il2
    refine k D _ _ (s1.trans (same_new hD)) (Same.free s1 hD) upd_same ?_ (il2.kp (kp_new hD))
    rw [List.length_map, pm.length_eq, List.length_range]; omega
  · refine .inr ⟨p, ps.map V.ref, rfl, hq, by rw [List.length_map, hpl]; omega, fun D hD => ?_⟩
    rw [← srtZ_few h2] at k
    exact k D _ _ (s1.trans (same_new hD)) (Same.free s1 hD) upd_same (by rw [List.length_map, hpl]; omega) (il.kp (kp_new hD))
theorem sw_srtO {ta : TE} {a : DE} (ha : SemO' K ta a) : SemW K false (iList K (tCB (rSrtL K) (tCons ta tNil))) (dSrtL a) := fun {B Z os ρ σ H R ds} f q k => by
  obtain ⟨zs, e, hl, rfl⟩ := dSrtL_some q
  obtain ⟨d, e, ed⟩ := asL_some e
  refine ha f e fun v H1 s1 i1 => ?_
  obtain ⟨p, vs, rfl, hlv, hn, hr⟩ := i1.seq ed
  obtain ⟨hqB, ilB⟩ := hr B No Kp.refl
  obtain ⟨hq, il⟩ := hr H1 No (Kp.same (f.keep.trans s1))
  obtain ⟨ps, rfl, hp⟩ := isl_lsts il
  have hpl : ps.length = zs.length := Paired.length hp
  have hs : sizeLine = 16777216 := sizeLine_eq
  have f1 := f.grow s1
  have new : ∀ (D : Addr) (vs' : List V), H1 D = none → IsL K B No vs' ((srtZ zs).map lstD) → ∃ q, V.ref D = .ref q ∧ (∃ xs, SqL K (upd H1 D (.lst vs')) q xs) ∧ R (Itl K q) (upd H1 D (.lst vs')) := fun D vs' hD il' => by
    have nt : ¬ tot Z os D := fun z => by obtain ⟨o, e⟩ := f1.tin D z; rw [hD] at e; cases e
    have hln : vs'.length = ((srtZ zs).map lstD).length := il'.length
    refine ⟨D, rfl, ⟨vs', SqL.of upd_same⟩, k _ _ (s1.trans (same_new hD)) (walk_list (vs := vs') (by rw [List.length_map, (srtZ_perm zs).length_eq]; omega) (fun H2 T2 kp sb => ?_) hln fun H2 T2 i v d kp sb e1 e2 => ?_)⟩
    · exact SqL.of (kp D _ upd_same nt).1
    · obtain ⟨v', g1, i2⟩ := il'.get e2
      rw [e1] at g1
      cases g1
      exact i2
  by_cases h2 : 2 ≤ zs.length
  · refine .inl ⟨p, ps, zs, rfl, hq, hp, h2, hl, fun idx pm up D hD => ?_⟩
    have lt_ : ∀ i ∈ idx, i < zs.length := fun i hi => List.mem_range.mp (pm.mem_iff.mp hi)
    have il2 := isl_pickL ilB lt_
    rw [srtZ_idx pm up] at il2
    exact new D _ hD il2
  · refine .inr ⟨p, ps.map V.ref, rfl, hq, by rw [List.length_map, hpl]; omega, fun D hD => ?_⟩
    refine new D _ hD ?_
    rw [← srtZ_few h2]
    exact ilB
end
end VL
set_option Elab.async false
set_option linter.all false
set_option maxRecDepth 100000
namespace VL
open PySem L2
open Classical
noncomputable section
variable [Tabs] {K : PySem.W.Frag}
def kRb (cs : List Nat) (ρ : Rho) (d : D) : Rho := (r0 1 cs ρ).set 0 (.bo d)
def srtG {α : Type} (kf : α → List Int) (xs : List α) : List α := xs.mergeSort fun x y => !L2.lexLt (kf y) (kf x)
omit [Tabs] in
theorem srtG_perm {α : Type} (kf : α → List Int) (xs : List α) : (srtG kf xs).Perm xs := List.mergeSort_perm _ _
omit [Tabs] in
theorem srtG_up {α : Type} (kf : α → List Int) (xs : List α) : (srtG kf xs).Pairwise fun a b => L2.lexLt (kf b) (kf a) = false := by
  have h := List.pairwise_mergeSort (le := fun x y => !L2.lexLt (kf y) (kf x)) (fun a b c h1 h2 => by
    rw [Bool.not_eq_true'] at h1 h2 ⊢
    exact lex_tr _ _ _ h1 h2) (fun a b => by
    cases e : L2.lexLt (kf b) (kf a) with
    | false => rfl
    | true => simp [lex_as _ _ e]) xs
  exact h.imp fun h => by simpa using h
omit [Tabs] in
theorem nd_keyG {α : Type} {kf : α → List Int} : ∀ {xs : List α}, (xs.map kf).Nodup → ∀ {a b : α}, a ∈ xs → b ∈ xs → kf a = kf b → a = b
  | d :: ds, h, a, b, ha, hb, e => by
    rw [List.map_cons] at h
    obtain ⟨h1, h2⟩ := List.nodup_cons.mp h
    rcases List.mem_cons.mp ha with ea | ha2
    · rcases List.mem_cons.mp hb with eb | hb2
      · rw [ea, eb]
      · exact absurd (show kf d ∈ ds.map kf from List.mem_map.mpr ⟨b, hb2, by rw [← e, ea]⟩) h1
    · rcases List.mem_cons.mp hb with eb | hb2
      · exact absurd (show kf d ∈ ds.map kf from List.mem_map.mpr ⟨a, ha2, by rw [e, eb]⟩) h1
      · exact nd_keyG h2 ha2 hb2 e
omit [Tabs] in
theorem srtG_uniq {α : Type} {kf kg : α → List Int} {xs ds : List α} (hk : ∀ d ∈ ds, kf d = kg d) (hn : (ds.map kf).Nodup) (p : xs.Perm ds) (h : xs.Pairwise fun a b => L2.lexLt (kg b) (kg a) = false) : xs = srtG kf ds := by
  refine List.Perm.eq_of_pairwise (le := fun a b => L2.lexLt (kf b) (kf a) = false) (fun a b ha hb h1 h2 => nd_keyG hn (p.mem_iff.mp ha) ((srtG_perm kf ds).mem_iff.mp hb) (lex_eq _ _ h2 h1)) ?_ (srtG_up kf ds) (p.trans (srtG_perm kf ds).symm)
  refine List.Pairwise.imp_of_mem (fun {a b} ha hb z => ?_) h
  rw [hk a (p.mem_iff.mp ha), hk b (p.mem_iff.mp hb)]
  exact z
@[irreducible] def sRetSM (i : Nat) (cs : List Nat) (e : DE) : DS := fun ρ => match ρ.getD i .un with
  | .om rows => if h : ∃ kf : List D → List Int, (∀ r ∈ rows, e (kRb cs ρ (.lst r)) = some (tupD (kf r)) ∧ kf r ≠ []) ∧ (rows.map kf).Nodup ∧ rows.length < 64 then .rt (rowsL (srtG h.choose rows)) else .no
  | _ => .no
omit [Tabs] in
theorem wp_retSM {ρ : Rho} {i : Nat} {cs : List Nat} {e : DE} {rows : List (List D)} {W : Wk} (kf : List D → List Int) (h0 : ρ.getD i .un = .om rows) (hk : ∀ r ∈ rows, e (kRb cs ρ (.lst r)) = some (tupD (kf r)) ∧ kf r ≠ []) (hn : (rows.map kf).Nodup) (hl : rows.length < 64) (k : W.rt (rowsL (srtG kf rows))) : Wp (sRetSM i cs e) ρ W := by
  have hh : ∃ kf : List D → List Int, (∀ r ∈ rows, e (kRb cs ρ (.lst r)) = some (tupD (kf r)) ∧ kf r ≠ []) ∧ (rows.map kf).Nodup ∧ rows.length < 64 := ⟨kf, hk, hn, hl⟩
  have es : srtG hh.choose rows = srtG kf rows := by
    refine srtG_uniq (kg := hh.choose) (fun d hd => ?_) hn (srtG_perm _ _) (srtG_up _ _)
    have h1 := (hk d hd).1
    rw [(hh.choose_spec.1 d hd).1] at h1
    exact (tupD_inj _ _ (Option.some.inj h1)).symm
  unfold Wp sRetSM
  rw [h0]
  dsimp only
  rw [dif_pos hh, es]
  exact k
theorem ss_retSM {P : Addr} {q : Str} {i : Nat} {cs : List Nat} {te : TE} {e : DE} (hP : (P, q) ∈ Tabs.ts) (he : SemI K te e) : SemS .m K (tRet (tSortK K P q (tVar i) te cs)) (sRetSM i cs e) := fun {B Z os ρ σ H E} f p => by
  unfold sRetSM at p
  split at p
  · rename_i rows e0
    split at p
    · rename_i hh
      obtain ⟨hk, hn, hl⟩ := hh.choose_spec
      generalize hh.choose = kf at *
      obtain ⟨a, ps, eo, hu, hH, hls, hpl, pr⟩ := om_of f e0
      have hs : sizeLine = 16777216 := sizeLine_eq
      obtain ⟨t, eP⟩ := f.tabH _ hP
      refine ⟨_, join_some hu, a, ps.map V.ref, _, t, rfl, SqL.of hH, by rw [List.length_map]; omega, eP, rfl, fun H2 gr => ?_⟩
      have hnd := f.nd i
      rw [eo] at hnd
      obtain ⟨hna, hnp⟩ := List.nodup_cons.mp hnd
      have hin : ∀ q ∈ ps, q ∈ os i := fun q hq => by rw [eo]; exact List.mem_cons_of_mem _ hq
      have key : ∀ (r : List Addr) (rr dd : List (List D)) (pk : List Addr) (H3 : Hp), Same H H3 → Paired (fun p ds => ∃ vs, H p = some (.lst vs) ∧ vs.length ≤ sizeLine ∧ IsL K H (tot Z os) vs ds) r rr → dd ++ rr = rows → TupZ H3 pk (dd.map kf) → keysW te (cs.map fun i => (σ[i]?).join) (FinT (ps.map V.ref) E.rt) (r.map V.ref) (pk.map V.ref) H3 := by
        intro r
        induction r with
        | nil =>
          intro rr dd pk H3 s3 pr3 hd tz
          cases pr3
          rw [List.append_nil] at hd
          subst hd
          refine ⟨pk, dd.map kf, rfl, tz, fun idx pm up Dn hD => ?_⟩
          rw [List.length_map] at pm
          have lt_ : ∀ i ∈ idx, i < dd.length := fun i hi => List.mem_range.mp (pm.mem_iff.mp hi)
          have er : ∀ {α : Type} (l : List α) (d : α), (List.range l.length).map (fun i => l.getD i d) = l := fun l d => by
            refine List.ext_getElem (by simp) fun i h1 h2 => ?_
            simp [h2]
          have ex : idx.map (fun i => dd.getD i []) = srtG kf dd := by
            refine srtG_uniq (kg := kf) (fun _ _ => rfl) hn ?_ ?_
            · have := pm.map fun i => dd.getD i []
              rw [er] at this
              exact this
            · rw [List.pairwise_map]
              refine List.Pairwise.imp_of_mem (fun {i j} hi hj z => ?_) up
              have gi : ∀ i, i < dd.length → (dd.map kf).getD i [] = kf (dd.getD i []) := fun i hi => by
                rw [List.getD_eq_getElem?_getD, List.getElem?_map, List.getElem?_eq_getElem hi, List.getD_eq_getElem?_getD, List.getElem?_eq_getElem hi]; rfl
              rw [gi _ (lt_ i hi), gi _ (lt_ j hj)] at z
              exact z
          have ep : (idx.map fun i => (ps.map V.ref).getD i .non) = (idx.map fun i => ps.getD i 0).map V.ref := by
            rw [List.map_map]
            exact List.map_congr_left fun i hi => by
              have := lt_ i hi
              show (ps.map V.ref).getD i .non = V.ref (ps.getD i 0)
              rw [List.getD_eq_getElem?_getD, List.getElem?_map, List.getElem?_eq_getElem (by omega), List.getD_eq_getElem?_getD, List.getElem?_eq_getElem (by omega)]; rfl
          have pp : (idx.map fun i => ps.getD i 0).Perm ps := by
            have := pm.map fun i => ps.getD i 0
            rw [← hpl, er] at this
            exact this
          have hHD : H Dn = none := Same.free s3 hD
          have hBD : B Dn = none := Same.free f.keep hHD
          have hDp : Dn ∉ idx.map fun i => ps.getD i 0 := fun z => by
            have := pp.mem_iff.mp z
            obtain ⟨j, hj, e'⟩ := List.mem_iff_getElem.mp this
            obtain ⟨x', ex0, vs', hv, _⟩ := VL.Paired.getF pr (List.getElem?_eq_getElem (show j < dd.length by omega))
            rw [List.getElem?_eq_getElem hj, e'] at ex0
            rw [← Option.some.inj ex0] at hv
            rw [hHD] at hv; cases hv
          refine p _ _ (f.keep.trans (s3.trans (same_new hD))) ⟨Dn, idx.map fun i => ps.getD i 0, srtG kf dd, rfl, rfl, hBD, fun x hx => (f.new i x (hin x (pp.mem_iff.mp hx))).1, List.nodup_cons.mpr ⟨hDp, pp.nodup_iff.mpr hnp⟩, by rw [ep]; exact upd_same, by rw [pp.length_eq]; exact hls, ?_⟩
          rw [← ex]
          have pick : ∀ (l : List Nat), (∀ i ∈ l, i < dd.length) → Paired (fun x ds => ∃ vs, upd H3 Dn (.lst (idx.map fun i => (ps.map V.ref).getD i .non)) x = some (.lst vs) ∧ vs.length ≤ sizeLine ∧ IsL K (upd H3 Dn (.lst (idx.map fun i => (ps.map V.ref).getD i .non))) (fun b => (b = Dn ∨ b ∈ idx.map fun i => ps.getD i 0) ∨ Z b) vs ds) (l.map fun i => ps.getD i 0) (l.map fun i => dd.getD i []) := by
            intro l
            induction l with
            | nil => intro _; exact .nil
            | cons j l ih =>
              intro hl'
              have hj := hl' j List.mem_cons_self
              obtain ⟨x, ex', vs, h1, h2, h3⟩ := VL.Paired.getF pr (List.getElem?_eq_getElem hj)
              refine .cons ?_ (ih fun i hi => hl' i (List.mem_cons_of_mem _ hi))
              have e1 : ps.getD j 0 = x := by rw [List.getD_eq_getElem?_getD, ex']; rfl
              have e2 : dd.getD j [] = dd[j] := by rw [List.getD_eq_getElem?_getD, List.getElem?_eq_getElem hj]; rfl
              dsimp only
              rw [e1, e2]
              have kp : Kp (tot Z os) H (fun b => (b = Dn ∨ b ∈ idx.map fun i => ps.getD i 0) ∨ Z b) (upd H3 Dn (.lst (idx.map fun i => (ps.map V.ref).getD i .non))) := fun b o hb nb => by
                have nD : b ≠ Dn := fun z => by rw [z, hHD] at hb; cases hb
                refine ⟨by rw [upd_ne nD]; exact s3 _ _ hb, fun z => ?_⟩
                rcases z with (z | z) | z
                · exact nD z
                · exact nb (.inr ⟨i, hin b (pp.mem_iff.mp z)⟩)
                · exact nb (.inl z)
              have nx : x ≠ Dn := fun z => by rw [z, hHD] at h1; cases h1
              exact ⟨vs, by rw [upd_ne nx]; exact s3 _ _ h1, h2, h3.kp kp⟩
          exact pick idx lt_
        | cons x r ih =>
          intro rr dd pk H3 s3 pr3 hd tz
          cases pr3 with
          | @cons _ d _ rr' g pr' =>
            obtain ⟨vs, h1, h2, h3⟩ := g
            have hdm : d ∈ rows := by rw [← hd]; exact List.mem_append_right _ List.mem_cons_self
            have ef := blockFrZ (k := 1) (cs := cs) f s3 (W := tot Z os) (fun a z => let ⟨o, e⟩ := f.tin a z; ⟨o, s3 _ _ e⟩) (Kp.same s3)
            have hg : SemG K false (gName 0) (gN false 0) := sg_name 0
            have er : ER K false H H3 (tot (tot Z os) fun _ => []) (.ref x) (.lst d) := .lst (fun z => z) (.inl h1) h2 (h3.kp (Kp.less fun _ z => z.elim))
            refine hg (Q := fun σ2 H2 => te σ2 H2 fun k H' => Grow H3 H' ∧ keysW te (cs.map fun i => (σ[i]?).join) (FinT (ps.map V.ref) E.rt) (r.map V.ref) (pk.map V.ref ++ [k]) H') ef er (show gN false 0 (.lst d) (r0 1 cs ρ) = some (kRb cs ρ (.lst d)) from rfl) fun os1 σ1 fr1 _ => ?_
            refine he fr1 (hk d hdm).1 fun u H4 s4 i4 => ⟨s4, ?_⟩
            obtain ⟨p4, us, rfl, _, hr4, _, iu⟩ := (show Is K H4 _ u (.tup ((kf d).map D.int)) from i4).isTup
            have eu := IsL.ints iu
            subst eu
            have em : pk.map V.ref ++ [V.ref p4] = (pk ++ [p4]).map V.ref := by rw [List.map_append]; rfl
            rw [em]
            refine ih rr' (dd ++ [d]) (pk ++ [p4]) H4 (s3.trans s4) pr' (by rw [List.append_assoc]; exact hd) ?_
            rw [List.map_append]
            exact Paired.append (Paired.mono tz fun p z _ hz => ⟨hz.1, s4 _ _ hz.2⟩) (.cons ⟨(hk d hdm).2, hr4⟩ .nil)
      exact key ps rows [] [] H2 gr pr rfl .nil
    · exact p.elim
  · exact p.elim
end
end VL
set_option Elab.async false
set_option linter.all false
set_option maxRecDepth 100000
namespace VL
open PySem L2
open Classical
noncomputable section
variable [Tabs] {K : PySem.W.Frag}
theorem Fun.okFL {fr : Fm} {P : Program} {w : World} {mg : Str → Option Value} {base : Heap} {x qual : Str} {st : Stmt} {f : Addr} {fd : FuncData} {N ps : List Str} {k : Nat} (F : Fun K x qual st f fd) (S : FnScope N ps (defScope st)) (ms : List Bool) (hms : ms.length = ps.length) (b : DS)
    (hbody : ∀ (cdv : Value), fd.code = cdv → ∀ (A : Around) (outer : List Env) (s : Shared) (H : Hp) (E : XK), Room k (A.deeper (PyProof.Rows.envOfC qual (defScope st) s.heap.objs.size f cdv)) →
      ∃ t, PSs (cxOf CX0 P w K mg base N qual (defScope st) f cdv A outer s H E).nox (defBody st) t ∧ SemS fr K t b) (hfr : ∀ E C, fr ≠ .x E C := by intro _ _ h; cases h) : FnOk P w K mg base CX0 (k + 1) f fd ps (spD fr K ms (runF N.length ms b)) := by
  refine L2.Fun.okC F S (fun vs H Q E h => ?_) (fun cdv hcd A outer s H vs Q E hr h => ?_)
  · obtain ⟨Z, ds, d, hz, a, _⟩ := h
    rw [a.len.1, hms]
  · obtain ⟨Z, ds, d, hz, a, e, k⟩ := h
    obtain ⟨t, h1, h2⟩ := hbody cdv hcd A outer s H E hr
    refine ⟨t, h1, h2 (startFr hz a) ?_⟩
    unfold runF at e
    split at e
    · rename_i d' e1
      cases e
      rw [e1]
      cases fr with
      | v => exact fun v H' s' i => k v H' s' i
      | l => exact fun v H' s' i => k v H' s' i
      | m => exact fun v H' s' i => k v H' s' i
      | x E0 C => exact absurd rfl (hfr E0 C)
    · cases e
def apx (n : Int) : HO → HO
  | .lst xs => .lst (xs ++ [.int n])
  | o => o
@[irreducible] def sAppR (i r : Nat) (n : Int) : DS := fun ρ => match ρ.getD i .un with
  | .om rows => if r < ρ.length ∧ i ≠ r ∧ ∀ x ∈ rows, x.length < sizeLine then .nx ((ρ.set i (.om (rows.map fun x => x ++ [.int n]))).set r .un) else .no
  | _ => .no
theorem ss_appR {fr : Fm} {i r : Nat} {n : Int} : SemS fr K (tFor (iList K (tVar i)) (gName r) (tDrop (tBM K "list" rAppend (tVar r) (tCons (tC (.int n)) tNil)))) (sAppR i r n) := fun {B Z os ρ σ H E} f p => by
  unfold sAppR at p
  split at p
  case h_2 => exact p.elim
  case h_1 rows e =>
    split at p
    case isFalse => exact p.elim
    case isTrue hc =>
      obtain ⟨hr, hir, hsm⟩ := hc
      obtain ⟨o, ps, eo, hu, hH, hl, hln, pr⟩ := om_of f e
      have hi := getD_lt e (by intro z; cases z)
      have hn := f.nd i
      rw [eo] at hn
      have rl : r < σ.length := by rw [f.len]; exact hr
      have hop : o ∉ ps := (List.nodup_cons.mp hn).1
      have hnp : ps.Nodup := (List.nodup_cons.mp hn).2
      have rowK : ∀ k q, ps[k]? = some q → ∃ vs, H q = some (.lst vs) ∧ vs.length < sizeLine := fun k q hq => by
        have hk : k < ps.length := (List.getElem?_eq_some_iff.mp hq).1
        obtain ⟨q', hq', vs, h1, h2, h3⟩ := VL.Paired.getF pr (List.getElem?_eq_getElem (show k < rows.length by omega))
        rw [hq] at hq'
        cases hq'
        exact ⟨vs, h1, by rw [h3.length]; exact hsm _ (List.getElem_mem _)⟩
      refine ⟨_, join_some hu, o, rfl, ⟨_, SqL.of hH⟩, fun k m σ' H' => m = ps.length - k ∧ k ≤ ps.length ∧ (∀ a, H' a = if a ∈ ps.take k then (H a).map (apx n) else H a) ∧ Ag [r, r] σ σ', ⟨ps.length, by omega, by omega, fun a => by simp, Ag.refl⟩, ?_⟩
      rintro k m σ1 H1 ⟨rfl, hk, h1, ag⟩
      have hH1 : H1 o = some (.lst (ps.map V.ref)) := by rw [h1, if_neg fun z => hop (List.mem_of_mem_take z)]; exact hH
      by_cases hkl : k < ps.length
      · right
        obtain ⟨q, hq⟩ : ∃ q, ps[k]? = some q := ⟨_, List.getElem?_eq_getElem hkl⟩
        obtain ⟨vs, hv, hvl⟩ := rowK k q hq
        have tk : ps.take (k + 1) = ps.take k ++ [q] := by rw [List.take_succ, hq]; rfl
        have qn : q ∉ ps.take k := fun z => by
          have := List.Nodup.sublist (List.take_sublist (k + 1) ps) hnp
          rw [tk, List.nodup_append] at this
          exact this.2.2 q z q (by simp) rfl
        refine ⟨⟨ps.map V.ref, .ref q, SqL.of hH1, by rw [List.getElem?_map, hq]; rfl⟩, fun σ' H' => (∀ a, H' a = if a ∈ ps.take (k + 1) then (H a).map (apx n) else H a) ∧ Ag [r, r] σ σ', fun σ' H' h => ⟨ps.length - (k + 1), by omega, rfl, by omega, h.1, h.2⟩, ?_⟩
        rintro x H' ⟨rfl, hx⟩
        have hx := hx _ (SqL.of hH1)
        rw [List.getElem?_map, hq] at hx
        cases hx
        have ag2 := ag.set (v := some (V.ref q)) (i := r) (by simp)
        have hq1 : H' q = some (HO.lst vs) := by rw [h1, if_neg qn]; exact hv
        refine ⟨.ref q, List.getElem?_set_self (by rw [ag.1]; exact rl), .inl ⟨rfl, _, SqL.of hq1⟩, q, vs, .int n, rfl, rfl, hq1, hvl, fun a => ?_, ag2⟩
        rw [tk]
        by_cases ha : a = q
        · subst ha; rw [upd_same, if_pos (by simp), hv]; rfl
        · rw [upd_ne ha, h1]
          simp [ha]
      · left
        refine ⟨⟨_, SqL.of hH1, by rw [List.length_map]; omega⟩, ?_⟩
        have hk' : k = ps.length := by omega
        subst hk'
        rw [List.take_length] at h1
        have hs : sizeLine = 16777216 := sizeLine_eq
        have kp : Kp (tot Z os) H (tot Z (putO os i (o :: ps))) H1 := fun b u hb nb => by
          have nbp : b ∉ ps := fun z => nb (.inr ⟨i, by rw [eo]; exact List.mem_cons_of_mem _ z⟩)
          refine ⟨by rw [h1, if_neg nbp]; exact hb, fun z => nb ?_⟩
          rcases z with z | ⟨j, z⟩
          · exact .inl z
          · refine .inr ⟨j, ?_⟩
            by_cases hj : j = i
            · subst hj; rw [putO_same] at z; rw [eo]; exact z
            · rw [putO_ne hj] at z; exact z
        have pr2 : Paired (fun q ds => ∃ vs, H1 q = some (.lst vs) ∧ vs.length ≤ sizeLine ∧ IsL K H1 (tot Z (putO os i (o :: ps))) vs ds) ps (rows.map fun x => x ++ [.int n]) := by
          have key : ∀ {qs : List Addr} {rs : List (List D)}, (∀ q ∈ qs, q ∈ ps) → (∀ x ∈ rs, x.length < sizeLine) → Paired (fun q ds => ∃ vs, H q = some (.lst vs) ∧ vs.length ≤ sizeLine ∧ IsL K H (tot Z os) vs ds) qs rs → Paired (fun q ds => ∃ vs, H1 q = some (.lst vs) ∧ vs.length ≤ sizeLine ∧ IsL K H1 (tot Z (putO os i (o :: ps))) vs ds) qs (rs.map fun x => x ++ [.int n]) := by
            intro qs rs hm hs h
            induction h with
            | nil => exact .nil
            | cons h _ ih =>
              obtain ⟨vs, g1, g2, g3⟩ := h
              refine .cons ⟨vs ++ [.int n], by rw [h1, if_pos (hm _ List.mem_cons_self), g1]; rfl, ?_, ?_⟩ (ih (fun q hq => hm q (List.mem_cons_of_mem _ hq)) fun x hx => hs x (List.mem_cons_of_mem _ hx))
              · have := hs _ List.mem_cons_self
                rw [← g3.length] at this
                simp; omega
              · exact (g3.kp kp).append (.cons (.int n) .nil)
          exact key (fun _ h => h) hsm pr
        have st := f.step (H' := H1) (i := i) hi (o := o :: ps) (s := .om (rows.map fun x => x ++ [.int n])) (v := some (.ref o)) (fun c u q nn => by rw [h1, if_neg fun z => nn (by rw [eo]; exact List.mem_cons_of_mem _ z)]; exact q) (fun c hc => ?_) hn (fun c hc => .inl (by rw [eo]; exact hc))
          ⟨o, ps, rfl, rfl, hH1, hl, pr2⟩
        · rw [set_self hu] at st
          obtain ⟨f2, k2⟩ := st.1.forget (r := r) (by rw [List.length_set]; exact hr) (σ1[r]?).join
          have e2 : σ1 = σ.set r (σ1[r]?).join := by
            have := ag.two
            rw [List.set_set] at this
            exact this
          rw [← e2] at f2
          exact p _ _ _ f2 (st.2.trans k2)
        · rw [h1]
          obtain ⟨xs, h⟩ := (f.sl i).dom hc
          split
          · rw [h]; exact ⟨_, rfl⟩
          · exact ⟨_, h⟩
omit [Tabs] in
theorem wp_appR {i r : Nat} {n : Int} {ρ : Rho} {rows : List (List D)} {W : Wk} (h0 : ρ.getD i .un = .om rows) (hc : r < ρ.length ∧ i ≠ r ∧ ∀ x ∈ rows, x.length < sizeLine) (k : W.nx ((ρ.set i (.om (rows.map fun x => x ++ [.int n]))).set r .un)) : Wp (sAppR i r n) ρ W := by
  unfold Wp sAppR; rw [h0]; simp only []; rw [if_pos hc]; exact k
end
end VL
set_option Elab.async false
set_option linter.all false
set_option maxRecDepth 100000
namespace L2
open PySem PySem.Spec PyProof.Rows VL
open Classical
noncomputable section
variable {X : Cx} {K : PySem.W.Frag}
def fL (H : Hp) (z : List Int) (u : Value) : Bool := match u with
  | .ref p => decide (∃ b, Rd H p (.lst b) ∧ b = z.map V.int)
  | _ => false
theorem cmpb_lstD (a b : List Int) : cmpb 2 (lstD a) (lstD b) = true := by
  show (decide ((a.map D.int).length ≠ (b.map D.int).length) || (List.zip (a.map D.int) (b.map D.int)).all fun p => cmpb 1 p.1 p.2) = true
  rw [Bool.or_eq_true]
  right
  rw [List.all_eq_true]
  rintro ⟨x, y⟩ h
  obtain ⟨h1, h2⟩ := List.of_mem_zip h
  obtain ⟨i, _, rfl⟩ := List.mem_map.mp h1
  obtain ⟨j, _, rfl⟩ := List.mem_map.mp h2
  rfl
theorem dec_lstD (a b : List Int) : decide (lstD a = lstD b) = decide (b = a) := by
  rw [Bool.eq_iff_iff, decide_eq_true_iff, decide_eq_true_iff]
  exact ⟨fun h => (lstD_inj _ _ h).symm, fun h => by rw [h]⟩
theorem inL_items {pins : List (Addr × Obj)} {σ : L2.St} {H : Hp} {s : Shared} (I : Inv X pins σ H s) (hu : X.A.units + 64 < cLine) {x : V} {v : Value} {z : List Int} (rx : RelV x v) (ix : Is K H No x (lstD z)) : ∀ {vs : List V} {its : List Value} {zs : List (List Int)}, Vals vs its → IsL K H No vs (zs.map lstD) → (∀ w ∈ its, SeqAt.EqAt X.A.in1 s w v (fL H z w)) ∧ its.any (fL H z) = decide (z ∈ zs)
  | _, _, [], .nil, .nil => ⟨fun w (h : w ∈ []) => (by cases h), rfl⟩
  | _, _, y :: zs, .cons r t, .cons h g => by
    obtain ⟨h1, h2⟩ := inL_items I hu rx ix t g
    have q := eqAt_is I 2 (A := X.A.in1) (by rw [in1_units]; omega) r rx h ix (cmpb_lstD _ _)
    obtain ⟨p, us, rfl, hz, hr, hl, i⟩ := (show Is K H No _ (.lst (y.map D.int)) from h).isLst
    have e := IsL.ints i
    subst e
    cases r
    have ef : fL H z (.ref p) = decide (z = y) := by
      show decide (∃ b, Rd H p (.lst b) ∧ b = z.map V.int) = _
      rw [Bool.eq_iff_iff, decide_eq_true_iff, decide_eq_true_iff]
      constructor
      · rintro ⟨b, hb, rfl⟩
        exact (List.map_inj_right fun a b h => by cases h; rfl).mp (rd_lst hb hr)
      · rintro rfl; exact ⟨_, hr, rfl⟩
    refine ⟨fun w hw => ?_, ?_⟩
    · rcases List.mem_cons.mp hw with rfl | hw
      · rw [ef, ← dec_lstD]; exact q
      · exact h1 w hw
    · rw [List.any_cons, ef, h2]
      simp [List.mem_cons]
def rInL (K : PySem.W.Frag) (neg : Bool) : R2 := fun x y H Q => ∃ (p : Addr) (vs : List V) (z : List Int) (zs : List (List Int)), y = .ref p ∧ SqL K H p vs ∧ Is K H No x (lstD z) ∧ IsL K H No vs (zs.map lstD) ∧ Q (.bl (if neg then !decide (z ∈ zs) else decide (z ∈ zs))) H
theorem op_notInL (hK : X.K = K) (hu : X.A.units + 64 < cLine) : OpR X (compareOp .NotIn) (rInL K true) := by
  subst hK
  intro pins s σ H x y v u Q I rx ry h
  obtain ⟨p, vs, z, zs, rfl, hq, ix, il, q⟩ := h
  cases ry
  obtain ⟨its, r, pl, hz⟩ := I.list hq
  obtain ⟨h1, h2⟩ := inL_items I hu rx ix r il
  refine SeqAt.notIn_listAt (fL H z) pl.isList (fun w hw => h1 w (by simpa using hw)) ⟨.bl _, H, I, rfl, ?_⟩
  rw [show its.toArray.any (fL H z) = its.any (fL H z) by simp, h2]
  exact q
end
end L2
namespace VL
open PySem L2
open Classical
noncomputable section
variable [Tabs] {K : PySem.W.Frag}
def dInL (neg : Bool) (a b : DE) : DE := fun ρ => match a ρ, asL b ρ with
  | some d, some ds => if h : ∃ p : List Int × List (List Int), d = lstD p.1 ∧ ds = p.2.map lstD then some (.bl (if neg then !decide (h.choose.1 ∈ h.choose.2) else decide (h.choose.1 ∈ h.choose.2))) else none
  | _, _ => none
omit [Tabs] in
theorem dInL_of {neg : Bool} {a b : DE} {ρ : Rho} {z : List Int} {zs : List (List Int)} (e1 : a ρ = some (lstD z)) (e2 : asL b ρ = some (zs.map lstD)) : dInL neg a b ρ = some (.bl (if neg then !decide (z ∈ zs) else decide (z ∈ zs))) := by
  have h : ∃ p : List Int × List (List Int), lstD z = lstD p.1 ∧ zs.map lstD = p.2.map lstD := ⟨(z, zs), rfl, rfl⟩
  unfold dInL
  rw [e1, e2]
  show (if h : ∃ p : List Int × List (List Int), lstD z = lstD p.1 ∧ zs.map lstD = p.2.map lstD then some (D.bl (if neg then !decide (h.choose.1 ∈ h.choose.2) else decide (h.choose.1 ∈ h.choose.2))) else none) = _
  rw [dif_pos h]
  have k1 := lstD_inj _ _ h.choose_spec.1
  have k2 := (List.map_inj_right lstD_inj).mp h.choose_spec.2
  rw [← k1, ← k2]
omit [Tabs] in
theorem dInL_some {neg : Bool} {a b : DE} {ρ : Rho} {d : D} (q : dInL neg a b ρ = some d) : ∃ (z : List Int) (zs : List (List Int)), a ρ = some (lstD z) ∧ asL b ρ = some (zs.map lstD) ∧ d = .bl (if neg then !decide (z ∈ zs) else decide (z ∈ zs)) := by
  unfold dInL at q
  split at q
  · rename_i d ds e1 e2
    split at q
    · rename_i h
      cases q
      exact ⟨_, _, by rw [e1]; exact congrArg some h.choose_spec.1, by rw [e2]; exact congrArg some h.choose_spec.2, rfl⟩
    · cases q
  · cases q
theorem si_inL {neg : Bool} {ta tb : TE} {a b : DE} (ha : SemB K ta a) (hb : SemB K tb b) : SemI K (tOp (rInL K neg) ta tb) (dInL neg a b) := fun {B Z os ρ σ H Q d} f q k => by
  obtain ⟨z, zs, e1, e2, rfl⟩ := dInL_some q
  obtain ⟨d, e2, ed⟩ := asL_some e2
  refine ha f e1 fun v H1 s1 i1 => hb (f.grow s1) e2 fun u H2 s2 i2 => ?_
  obtain ⟨p, vs, rfl, hlv, hn, hr⟩ := i2.seq ed
  obtain ⟨hq, il⟩ := hr H2 _ Kp.refl
  exact ⟨p, vs, z, zs, rfl, hq, i1.same s2, il, k _ _ (s1.trans s2) (.bl _)⟩
end
end VL
set_option maxHeartbeats 4000000
namespace My
open PySem L2 VL
def top (i : Nat) : Stmt := PySem.Challenge.pw_leastfloor_k03_rows_joined.main.body.getD i (.Pass ⟨0, 0, 0, 0⟩)
abbrev s_joined : Stmt := top 5
abbrev s_goes_on : Stmt := top 6
abbrev s_l_mix : Stmt := top 8
abbrev s_l_whole : Stmt := top 9
abbrev s_l_cell_at : Stmt := top 10
abbrev s_l_rows : Stmt := top 11
abbrev s_l_due : Stmt := top 12
abbrev s_l_like : Stmt := top 13
abbrev s_law : Stmt := top 14
theorem sc_joined : FnScope ["rows", "fewest", "row"] ["rows"] (defScope s_joined) := ⟨rfl, rfl, rfl, by decide +kernel, rfl, by decide +kernel, by decide +kernel⟩
theorem sc_goes_on : FnScope ["row", "later"] ["row", "later"] (defScope s_goes_on) := ⟨rfl, rfl, rfl, by decide +kernel, rfl, by decide +kernel, by decide +kernel⟩
theorem sc_l_mix : FnScope ["_law_number", "_law_k"] ["_law_number", "_law_k"] (defScope s_l_mix) := ⟨rfl, rfl, rfl, by decide +kernel, rfl, by decide +kernel, by decide +kernel⟩
theorem sc_l_whole : FnScope ["_law_found"] ["_law_found"] (defScope s_l_whole) := ⟨rfl, rfl, rfl, by decide +kernel, rfl, by decide +kernel, by decide +kernel⟩
theorem sc_l_cell_at : FnScope ["_law_script", "_law_k"] ["_law_script", "_law_k"] (defScope s_l_cell_at) := ⟨rfl, rfl, rfl, by decide +kernel, rfl, by decide +kernel, by decide +kernel⟩
theorem sc_l_rows : FnScope ["_law_cells", "_law_unit", "_law_rows_here", "_law_benches", "_law_works", "_law_cell", "_law_bench", "_law_work", "_law_begin", "_law_end"] ["_law_cells", "_law_unit"] (defScope s_l_rows) := ⟨rfl, rfl, rfl, by decide +kernel, rfl, by decide +kernel, by decide +kernel⟩
theorem sc_l_due : FnScope ["_law_rows_here", "_law_begins", "_law_due_here", "_law_row", "_law_end", "_law_more", "_law_one"] ["_law_rows_here"] (defScope s_l_due) := ⟨rfl, rfl, rfl, by decide +kernel, rfl, by decide +kernel, by decide +kernel⟩
theorem sc_l_like : FnScope ["_law_found", "_law_due_here", "_law_row", "_law_number"] ["_law_found", "_law_due_here"] (defScope s_l_like) := ⟨rfl, rfl, rfl, by decide +kernel, rfl, by decide +kernel, by decide +kernel⟩
theorem sc_law : FnScope ["_law_script", "_law_unit", "_law_rows_here", "_law_handed", "_law_due_here", "_law_found", "_law_again", "_law_row"] ["_law_script"] (defScope s_law) := ⟨rfl, rfl, rfl, by decide +kernel, rfl, by decide +kernel, by decide +kernel⟩
structure Adr where
  f_joined : Addr
  d_joined : FuncData
  f_goes_on : Addr
  d_goes_on : FuncData
  f_l_mix : Addr
  d_l_mix : FuncData
  f_l_whole : Addr
  d_l_whole : FuncData
  f_l_cell_at : Addr
  d_l_cell_at : FuncData
  f_l_rows : Addr
  d_l_rows : FuncData
  f_l_due : Addr
  d_l_due : FuncData
  f_l_like : Addr
  d_l_like : FuncData
  f_law : Addr
  d_law : FuncData
  k_joined : Addr
  p_joined : Addr
structure Txt [Tabs] (K : PySem.W.Frag) (mg : Str → Option Value) (a : Adr) : Prop where
  F_joined : Fun K "joined" "joined" s_joined a.f_joined a.d_joined
  b_joined : Binds K a.d_joined ["rows"] []
  m_joined : mg "joined" = some (.ref a.f_joined)
  F_goes_on : Fun K "goes_on" "goes_on" s_goes_on a.f_goes_on a.d_goes_on
  b_goes_on : Binds K a.d_goes_on ["row", "later"] []
  m_goes_on : mg "goes_on" = some (.ref a.f_goes_on)
  F_l_mix : Fun K "_law_mix" "_law_mix" s_l_mix a.f_l_mix a.d_l_mix
  b_l_mix : Binds K a.d_l_mix ["_law_number", "_law_k"] []
  m_l_mix : mg "_law_mix" = some (.ref a.f_l_mix)
  F_l_whole : Fun K "_law_whole" "_law_whole" s_l_whole a.f_l_whole a.d_l_whole
  b_l_whole : Binds K a.d_l_whole ["_law_found"] []
  m_l_whole : mg "_law_whole" = some (.ref a.f_l_whole)
  F_l_cell_at : Fun K "_law_cell_at" "_law_cell_at" s_l_cell_at a.f_l_cell_at a.d_l_cell_at
  b_l_cell_at : Binds K a.d_l_cell_at ["_law_script", "_law_k"] []
  m_l_cell_at : mg "_law_cell_at" = some (.ref a.f_l_cell_at)
  F_l_rows : Fun K "_law_rows" "_law_rows" s_l_rows a.f_l_rows a.d_l_rows
  b_l_rows : Binds K a.d_l_rows ["_law_cells", "_law_unit"] []
  m_l_rows : mg "_law_rows" = some (.ref a.f_l_rows)
  F_l_due : Fun K "_law_due" "_law_due" s_l_due a.f_l_due a.d_l_due
  b_l_due : Binds K a.d_l_due ["_law_rows_here"] []
  m_l_due : mg "_law_due" = some (.ref a.f_l_due)
  F_l_like : Fun K "_law_like" "_law_like" s_l_like a.f_l_like a.d_l_like
  b_l_like : Binds K a.d_l_like ["_law_found", "_law_due_here"] []
  m_l_like : mg "_law_like" = some (.ref a.f_l_like)
  F_law : Fun K "law" "law" s_law a.f_law a.d_law
  b_law : Binds K a.d_law ["_law_script"] []
  m_law : mg "law" = some (.ref a.f_law)
  kc_joined : a.d_joined.code = .ref a.k_joined
  kh_joined : PySem.W.codeHdIn K a.k_joined a.p_joined = true
  kt_joined : (a.p_joined, ("joined.<locals>.<lambda>" : Str)) ∈ Tabs.ts
  z_bool : mg "bool" = none
  z_int : mg "int" = none
  z_isinstance : mg "isinstance" = none
  z_len : mg "len" = none
  z_list : mg "list" = none
  z_max : mg "max" = none
  z_sorted : mg "sorted" = none
  c_BEGIN : ∃ t, mg "BEGIN" = some (.int 2 t)
  c_BENCH : ∃ t, mg "BENCH" = some (.int 0 t)
  c_END : ∃ t, mg "END" = some (.int 3 t)
  c_WORK : ∃ t, mg "WORK" = some (.int 1 t)
noncomputable section
theorem st_goes_on (x0 x1 : D) : stD 2 [false, false] [x0, x1] = [.bo x0, .bo x1] := rfl
def B_goes_on : DS := (sRet (dAndV (dEq false (dIx (dVar 0) (dC (.int 0))) (dIx (dVar 1) (dC (.int 0)))) (dAndV (dEq false (dIx (dVar 0) (dC (.int 1))) (dIx (dVar 1) (dC (.int 1)))) (dEq false (dIx (dVar 0) (dC (.int 3))) (dIx (dVar 1) (dC (.int 2)))))))
@[irreducible] def F_goes_on : List D → Option D := runD 2 [false, false] B_goes_on
theorem F_goes_on_def : F_goes_on = runD 2 [false, false] B_goes_on := by unfold F_goes_on; rfl
theorem st_joined (x0 : D) : stD 3 [false] [x0] = [.bo x0, .un, .un] := rfl
def B_joined : DS := (sSeq (sSetM 1 dMNil)
    (sSeq (sFor (dSrtL (dVarO 0)) (gN false 2)
      (sIf (dAnd (dTru (dVar 1)) (dTru (dCall F_goes_on (dCons (dIx (dVar 1) (dNeg (dC (.int 1)))) (dCons (dVar 2) dNil)))))
      (sPut2 1 (dNeg (dC (.int 1))) (dC (.int 3)) (gScal (dIx (dVar 2) (dC (.int 3)))))
      (sAppM 1 (gFlat (dLof (dVar 2))))))
    (sRetSM 1 [] (dTup (dCons (gScal (dIx (dVar 0) (dC (.int 2)))) (dCons (gScal (dIx (dVar 0) (dC (.int 0)))) dNil))))))
@[irreducible] def F_joined : List D → Option D := runF 3 [false] B_joined
theorem F_joined_def : F_joined = runF 3 [false] B_joined := by unfold F_joined; rfl
theorem st_l_mix (x0 x1 : D) : stD 2 [false, false] [x0, x1] = [.bo x0, .bo x1] := rfl
def B_l_mix : DS := (sRet (dMod (dMul (dAdd (dAdd (dMul (dVar 0) (dVar 0)) (dMul (dVar 1) (dVar 0))) (dMul (dMul (dC (.int 7)) (dVar 1)) (dVar 1))) (dC (.int 1103515245))) (dC (.int 2147483629))))
@[irreducible] def F_l_mix : List D → Option D := runD 2 [false, false] B_l_mix
theorem F_l_mix_def : F_l_mix = runD 2 [false, false] B_l_mix := by unfold F_l_mix; rfl
theorem st_l_whole (x0 : D) : stD 1 [false] [x0] = [.bo x0] := rfl
def B_l_whole : DS := (sRet (dAndV (dIsi "int" (dVar 0)) (dNotV (dIsi "bool" (dVar 0)))))
@[irreducible] def F_l_whole : List D → Option D := runD 1 [false] B_l_whole
theorem F_l_whole_def : F_l_whole = runD 1 [false] B_l_whole := by unfold F_l_whole; rfl
theorem st_l_cell_at (x0 x1 : D) : stD 2 [false, false] [x0, x1] = [.bo x0, .bo x1] := rfl
def B_l_cell_at : DS := (sSeq (sIf (dT (dLt (dVar 1) (dF1 lenD (dVar 0))))
      (sRet (gScal (dIx (dVar 0) (dVar 1))))
      sPass)
    (sRet (dC (.int 0))))
@[irreducible] def F_l_cell_at : List D → Option D := runD 2 [false, false] B_l_cell_at
theorem F_l_cell_at_def : F_l_cell_at = runD 2 [false, false] B_l_cell_at := by unfold F_l_cell_at; rfl
theorem st_l_rows (x0 x1 : D) : stD 10 [false, false] [x0, x1] = [.bo x0, .bo x1, .un, .un, .un, .un, .un, .un, .un, .un] := rfl
def B_l_rows : DS := (sSeq (sSetO 2 dNil)
    (sSeq (sSetO 3 (dRep (dCons (dC (.int 0)) dNil) (dC (.int 2))))
    (sSeq (sSetO 4 (dRep (dCons (dC (.int 0)) dNil) (dC (.int 2))))
    (sSeq (sFor (asL (dVarO 0)) (gN false 5)
      (sSeq (sSet 6 (dMod (dCall F_l_mix (dCons (dVar 5) (dCons (dC (.int 1)) dNil))) (dC (.int 2))))
    (sSeq (sSet 7 (dMod (dAdd (dVar 6) (dF1 intD (dEq false (dMod (dCall F_l_mix (dCons (dVar 5) (dCons (dC (.int 2)) dNil))) (dC (.int 3))) (dC (.int 0))))) (dC (.int 2))))
    (sSeq (sSet 8 (dAdd (dMax2 (dIx (dVar 3) (dVar 6)) (dIx (dVar 4) (dVar 7))) (dMul (dVar 1) (dMax2 (dC (.int 0)) (dSub (dMod (dCall F_l_mix (dCons (dVar 5) (dCons (dC (.int 3)) dNil))) (dC (.int 5))) (dC (.int 2)))))))
    (sSeq (sSet 9 (dAdd (dVar 8) (dMul (dVar 1) (dAdd (dC (.int 1)) (dMod (dCall F_l_mix (dCons (dVar 5) (dCons (dC (.int 4)) dNil))) (dC (.int 4)))))))
    (sSeq (sPut 3 (dVar 6) (dVarI 9))
    (sSeq (sPut 4 (dVar 7) (dVarI 9))
    (sIns 2 (dMod (dCall F_l_mix (dCons (dVar 5) (dCons (dC (.int 5)) dNil))) (dAdd (dF1 lenD (dVar 2)) (dC (.int 1)))) (dLst (dCons (dVarI 6) (dCons (dVarI 7) (dCons (dVarI 8) (dCons (dVarI 9) dNil)))))))))))))
    (sFrz 2 (sRet (dVarI 2)))))))
@[irreducible] def F_l_rows : List D → Option D := runD 10 [false, false] B_l_rows
theorem F_l_rows_def : F_l_rows = runD 10 [false, false] B_l_rows := by unfold F_l_rows; rfl
theorem st_l_due (x0 : D) : stD 7 [true] [x0] = [.pu x0, .un, .un, .un, .un, .un, .un] := rfl
def B_l_due : DS := (sSeq (sSet 1 (dLst (dComp 1 [0] (asL (dVarI 0)) (gN true 0) (dT (dInL true (dLst (dCons (dIx (dVarI 0) (dC (.int 0))) (dCons (dIx (dVarI 0) (dC (.int 1))) (dCons (dIx (dVarI 0) (dC (.int 2))) dNil)))) (dLst (dComp 1 [] (asL (dVarI 1)) (gN true 0) dTrue (dLst (dCons (dIx (dVarI 0) (dC (.int 0))) (dCons (dIx (dVarI 0) (dC (.int 1))) (dCons (dIx (dVarI 0) (dC (.int 3))) dNil)))))))) (dVarI 0))))
    (sSeq (sSetO 2 dNil)
    (sSeq (sFor (asL (dVarI 1)) (gN true 3)
      (sSeq (sSet 4 (dIx (dVarI 3) (dC (.int 3))))
    (sSeq (sSet 5 (dC (.bl true)))
    (sSeq (sWhile (dTru (dVar 5))
      (sSeq (sSet 5 (dC (.bl false)))
    (sFor (asL (dVarI 0)) (gN true 6)
      (sIf (dT (dEq false (dLst (dSl (dVarI 6) oNone (oSome (dC (.int 3))))) (dLst (dCons (dIx (dVarI 3) (dC (.int 0))) (dCons (dIx (dVarI 3) (dC (.int 1))) (dCons (dVarI 4) dNil))))))
      (sSeq (sSet 4 (dIx (dVarI 6) (dC (.int 3))))
    (sSet 5 (dC (.bl true))))
      sPass))))
    (sApp 2 (dLst (dCons (dIx (dVarI 3) (dC (.int 2))) (dCons (dIx (dVarI 3) (dC (.int 0))) (dCons (dIx (dVarI 3) (dC (.int 1))) (dCons (dVarI 4) dNil))))))))))
    (sFrz 2 (sRet (dLst (dComp 4 [] (asL (dLst (dSrtL (dVarI 2)))) (gUn 4 (gsCons (gN true 0) (gsCons (gN true 1) (gsCons (gN true 2) (gsCons (gN true 3) gsNil))))) dTrue (dLst (dCons (dVarI 1) (dCons (dVarI 2) (dCons (dVarI 0) (dCons (dVarI 3) dNil))))))))))))
@[irreducible] def F_l_due : List D → Option D := runD 7 [true] B_l_due
theorem F_l_due_def : F_l_due = runD 7 [true] B_l_due := by unfold F_l_due; rfl
theorem st_l_like (x0 x1 : D) : stD 4 [false, false] [x0, x1] = [.bo x0, .bo x1, .un, .un] := rfl
def B_l_like : DS := (sSeq (sIf (dOr (dNot (dTru (dIsi "list" (dVar 0)))) (dT (dEq true (dF1 lenD (dVar 0)) (dF1 lenD (dVar 1)))))
      (sRet (dC (.bl false)))
      sPass)
    (sSeq (sFor (asL (dVarO 0)) (gN false 2)
      (sSeq (sIf (dNot (dTru (dIsi "list" (dVar 2))))
      (sRet (dC (.bl false)))
      sPass)
    (sFor (asL (dVarO 2)) (gN false 3)
      (sIf (dNot (dTru (dCall F_l_whole (dCons (dVar 3) dNil))))
      (sRet (dC (.bl false)))
      sPass))))
    (sRet (dEq false (dVar 0) (dVar 1)))))
@[irreducible] def F_l_like : List D → Option D := runD 4 [false, false] B_l_like
theorem F_l_like_def : F_l_like = runD 4 [false, false] B_l_like := by unfold F_l_like; rfl
theorem st_law (x0 : D) : stD 8 [false] [x0] = [.bo x0, .un, .un, .un, .un, .un, .un, .un] := rfl
def B_law : DS := (sSeq (sSet 1 (dIx (dLst (dCons (dC (.int 1)) (dCons (dC (.int 7)) (dCons (dAdd (dPow (dC (.int 10)) (dC (.int 40))) (dC (.int 9))) dNil)))) (dMod (dCall F_l_cell_at (dCons (dVar 0) (dCons (dC (.int 0)) dNil))) (dC (.int 3)))))
    (sSeq (sSet 2 (dCall F_l_rows (dCons (dLst (gFlat (dSl (dVar 0) (oSome (dC (.int 2))) (oSome (dC (.int 63)))))) (dCons (dVar 1) dNil))))
    (sSeq (sSet 3 (dLst (dComp 1 [] (asL (dVarI 2)) (gN true 0) dTrue (dLst (dLof (dVarI 0))))))
    (sSeq (sSet 4 (dCall F_l_due (dCons (dVarI 2) dNil)))
    (sSeq (sSetM 5 (dCallM F_joined (dCons (dVar 3) dNil)))
    (sSeq (sIf (dOr (dNot (dTru (dCall F_l_like (dCons (dVar 5) (dCons (dVar 4) dNil))))) (dT (dEq true (dVar 3) (dVar 2))))
      (sRet (dC (.bl false)))
      sPass)
    (sSeq (sSet 6 (dCall F_joined (dCons (dVar 5) dNil)))
    (sSeq (sAppR 5 7 0)
    (sSeq (sAppM 5 dNil)
    (sRet (dAndV (dCall F_l_like (dCons (dVar 6) (dCons (dVar 4) dNil))) (dAndV (dEq false (dVar 3) (dVar 2)) (dCall F_l_like (dCons (dCall F_joined (dCons (dVar 3) dNil)) (dCons (dVar 4) dNil)))))))))))))))
@[irreducible] def F_law : List D → Option D := runD 8 [false] B_law
theorem F_law_def : F_law = runD 8 [false] B_law := by unfold F_law; rfl
end
section
variable [Tabs] {P : Program} {w : World} {K : PySem.W.Frag} {mg : Str → Option Value} {base : Heap} {ad : Adr}
theorem ok_goes_on (T : Txt K mg ad) (hbm : BmOk mg base) : FnOk P w K mg base CX0 1 ad.f_goes_on ad.d_goes_on ["row", "later"] (spD .v K [false, false] F_goes_on) := by
  rw [F_goes_on_def]
  exact Fun.okD (N := ["row", "later"]) T.F_goes_on sc_goes_on [false, false] rfl B_goes_on fun cdv A outer s H E hr => ⟨_,
    (pss_one (ps_ret (pe_and (pe_cmpR (op_eqD (K := K) hr.units) (pe_ix (ix_seqK (K := K) rfl) (pv 0) (pe_globI rfl T.c_BENCH) (fun _ _ => rfl)) (pe_ix (ix_seqK (K := K) rfl) (pv 1) (pe_globI rfl T.c_BENCH) (fun _ _ => rfl)) (nomark _)) (pe_and (pe_cmpR (op_eqD (K := K) hr.units) (pe_ix (ix_seqK (K := K) rfl) (pv 0) (pe_globI rfl T.c_WORK) (fun _ _ => rfl)) (pe_ix (ix_seqK (K := K) rfl) (pv 1) (pe_globI rfl T.c_WORK) (fun _ _ => rfl)) (nomark _)) (pe_one (pe_cmpR (op_eqD (K := K) hr.units) (pe_ix (ix_seqK (K := K) rfl) (pv 0) (pe_globI rfl T.c_END) (fun _ _ => rfl)) (pe_ix (ix_seqK (K := K) rfl) (pv 1) (pe_globI rfl T.c_BEGIN) (fun _ _ => rfl)) (nomark _))))))),
    (ss_ret (si_andV (SemI.b (si_eq (neg := false) (sb_ix (sb_var 0) (SemI.b si_int)) (sb_ix (sb_var 1) (SemI.b si_int)))) (si_andV (SemI.b (si_eq (neg := false) (sb_ix (sb_var 0) (SemI.b si_int)) (sb_ix (sb_var 1) (SemI.b si_int)))) (si_eq (neg := false) (sb_ix (sb_var 0) (SemI.b si_int)) (sb_ix (sb_var 1) (SemI.b si_int))))))⟩
theorem ok_joined (T : Txt K mg ad) (hbm : BmOk mg base) : FnOk P w K mg base CX0 2 ad.f_joined ad.d_joined ["rows"] (spD .m K [false] F_joined) := by
  rw [F_joined_def]
  exact Fun.okFL (N := ["rows", "fewest", "row"]) T.F_joined sc_joined [false] rfl B_joined fun cdv hcd A outer s H E hr => ⟨_,
    (pss_cons (ps_set (i := 1) sc_joined.nd rfl (Or.inl rfl) (pe_lst pa_nil))
    (pss_cons (ps_for PassesOwn.never rfl (pi_listK (K := K) rfl (pe_callB (call_srtL (K := K) rfl rfl hr) rfl T.z_sorted bt_sorted (pa_cons (pv 0) pa_nil))) (pg_name (i := 2) sc_joined.nd rfl (Or.inl rfl))
      (pss_one (ps_if (PW.pt (pw_and (pt_truthK (K := K) rfl (pv 1) (fun _ => rfl)) (pw_and1 (pt_truthK (K := K) rfl (pe_call (ok_goes_on T hbm) (hr.mono (by decide)) rfl T.m_goes_on T.F_goes_on.kp T.b_goes_on .nil pass0 (pa_cons (pe_ix (ix_seqK (K := K) rfl) (pv 1) (pe_un un_neg pe_int) (fun _ _ => rfl)) (pa_cons (pv 2) pa_nil))) (fun _ => rfl)))))
      (pss_one (ps_asg (pe_ix (ix_seqK (K := K) rfl) (pv 2) (pe_globI rfl T.c_END) (fun _ _ => rfl)) (pg_sub (pe_ix (ix_seqK (K := K) rfl) (pv 1) (pe_un un_neg pe_int) (fun _ _ => rfl)) (pe_globI rfl T.c_END) set_list)))
      (pss_one (ps_expr (pe_bm PySem.F.plainAttrs_list PySem.F.slot_list_append PySem.F.type_list_append mt_append (pv 1) (pa_cons (pe_callTy (call_list_ofK (K := K) rfl) rfl T.z_list bt_list (pa_cons (pv 2) pa_nil)) pa_nil)))))))
    (pss_one (ps_ret (pe_sortK (K := K) (x := "each") (zs := []) (is := []) (q := "joined.<locals>.<lambda>") rfl ⟨hcd.symm.trans T.kc_joined, T.kh_joined, hbm⟩ hr rfl rfl T.z_sorted (pv 1) (LFrees.many .nil .nil (by decide +kernel) rfl (by decide +kernel) rfl rfl rfl) (by first | rfl | decide +kernel) rfl (fun _ _ _ _ _ => (pe_tup (pa_cons (pe_ix (ix_seqK (K := K) rfl) (pv 0) (pe_globI rfl T.c_BEGIN) (fun _ _ => rfl)) (pa_cons (pe_ix (ix_seqK (K := K) rfl) (pv 0) (pe_globI rfl T.c_BENCH) (fun _ _ => rfl)) pa_nil))))))))),
    (ss_seq (ss_setM sm_nil)
    (ss_seq (ss_for (m := false) (sw_srtO (so_var 0)) (sg_name 2)
      (ss_if (st_and (st_tru (K := K) (sb_var 1)) (st_tru (K := K) (SemI.b (si_call (sa_any (sb_ix (sb_var 1) (SemI.b (si_neg (SemI.b si_int)))) (sa_any (sb_var 2) sa_nil))))))
      (ss_put2 (SemB.i (sb_ix (sb_var 2) (SemI.b si_int))) (SemI.b (si_neg (SemI.b si_int))) (SemI.b si_int))
      (ss_appM (sf_listB (sb_var 2)))))
    (ss_retSM (i := 1) (cs := []) T.kt_joined (si_tup (n := 2) (sa_own (SemB.i (sb_ix (sb_var 0) (SemI.b si_int))) (sa_own (SemB.i (sb_ix (sb_var 0) (SemI.b si_int))) sa_nil)) (by decide)))))⟩
theorem ok_l_mix (T : Txt K mg ad) (hbm : BmOk mg base) : FnOk P w K mg base CX0 1 ad.f_l_mix ad.d_l_mix ["_law_number", "_law_k"] (spD .v K [false, false] F_l_mix) := by
  rw [F_l_mix_def]
  exact Fun.okD (N := ["_law_number", "_law_k"]) T.F_l_mix sc_l_mix [false, false] rfl B_l_mix fun cdv A outer s H E hr => ⟨_,
    (pss_one (ps_ret (pe_op op_mod (pe_op op_mulB (pe_op op_add (pe_op op_add (pe_op op_mulB (pv 0) (pv 0)) (pe_op op_mulB (pv 1) (pv 0))) (pe_op op_mulB (pe_op op_mulB pe_int (pv 1)) (pv 1))) pe_int) pe_int))),
    (ss_ret (si_mod (SemI.b (si_mul (SemI.b (si_add (SemI.b (si_add (SemI.b (si_mul (sb_var 0) (sb_var 0))) (SemI.b (si_mul (sb_var 1) (sb_var 0))))) (SemI.b (si_mul (SemI.b (si_mul (SemI.b si_int) (sb_var 1))) (sb_var 1))))) (SemI.b si_int))) (SemI.b si_int)))⟩
theorem ok_l_whole (T : Txt K mg ad) (hbm : BmOk mg base) : FnOk P w K mg base CX0 1 ad.f_l_whole ad.d_l_whole ["_law_found"] (spD .v K [false] F_l_whole) := by
  rw [F_l_whole_def]
  exact Fun.okD (N := ["_law_found"]) T.F_l_whole sc_l_whole [false] rfl B_l_whole fun cdv A outer s H E hr => ⟨_,
    (pss_one (ps_ret (pe_and (pe_callB (call_isiK (K := K) rfl) rfl T.z_isinstance bt_isinstance (pa_cons (pv 0) (pa_cons (pe_bltn (v := .ty "int") rfl T.z_int bt_int rfl) pa_nil))) (pe_one (pe_not (pe_callB (call_isiK (K := K) rfl) rfl T.z_isinstance bt_isinstance (pa_cons (pv 0) (pa_cons (pe_bltn (v := .ty "bool") rfl T.z_bool bt_bool rfl) pa_nil)))))))),
    (ss_ret (si_andV (SemI.b (si_isi (n := "int") (sb_var 0))) (si_notV (SemI.b (si_isi (n := "bool") (sb_var 0))))))⟩
theorem ok_l_cell_at (T : Txt K mg ad) (hbm : BmOk mg base) : FnOk P w K mg base CX0 1 ad.f_l_cell_at ad.d_l_cell_at ["_law_script", "_law_k"] (spD .v K [false, false] F_l_cell_at) := by
  rw [F_l_cell_at_def]
  exact Fun.okD (N := ["_law_script", "_law_k"]) T.F_l_cell_at sc_l_cell_at [false, false] rfl B_l_cell_at fun cdv A outer s H E hr => ⟨_,
    (pss_cons (ps_if (pt_cmpR op_lt (pv 1) (pe_callB (call_lenK (K := K) rfl) rfl T.z_len bt_len (pa_cons (pv 0) pa_nil)) (nomark _))
      (pss_one (ps_ret (pe_ix (ix_seqK (K := K) rfl) (pv 0) (pv 1) (fun _ _ => rfl))))
      pss_nil)
    (pss_one (ps_ret pe_int))),
    (ss_seq (ss_if (st_test (SemI.b (si_lt (sb_var 1) (SemI.b (si_len (sb_var 0))))))
      (ss_ret (SemB.i (sb_ix (sb_var 0) (sb_var 1))))
      ss_pass)
    (ss_ret si_int))⟩
theorem ok_l_rows (T : Txt K mg ad) (hbm : BmOk mg base) : FnOk P w K mg base CX0 2 ad.f_l_rows ad.d_l_rows ["_law_cells", "_law_unit"] (spD .v K [false, false] F_l_rows) := by
  rw [F_l_rows_def]
  exact Fun.okD (N := ["_law_cells", "_law_unit", "_law_rows_here", "_law_benches", "_law_works", "_law_cell", "_law_bench", "_law_work", "_law_begin", "_law_end"]) T.F_l_rows sc_l_rows [false, false] rfl B_l_rows fun cdv A outer s H E hr => ⟨_,
    (pss_cons (ps_set (i := 2) sc_l_rows.nd rfl (Or.inl rfl) (pe_lst pa_nil))
    (pss_cons (ps_set (i := 3) sc_l_rows.nd rfl (Or.inl rfl) (pe_op op_rep (pe_lst (pa_cons pe_int pa_nil)) pe_int))
    (pss_cons (ps_set (i := 4) sc_l_rows.nd rfl (Or.inl rfl) (pe_op op_rep (pe_lst (pa_cons pe_int pa_nil)) pe_int))
    (pss_cons (ps_for PassesOwn.never rfl (pi_listK (K := K) rfl (pv 0)) (pg_name (i := 5) sc_l_rows.nd rfl (Or.inl rfl))
      (pss_cons (ps_set (i := 6) sc_l_rows.nd rfl (Or.inl rfl) (pe_op op_mod (pe_call (ok_l_mix T hbm) (hr.mono (by decide)) rfl T.m_l_mix T.F_l_mix.kp T.b_l_mix .nil pass0 (pa_cons (pv 5) (pa_cons pe_int pa_nil))) pe_int))
    (pss_cons (ps_set (i := 7) sc_l_rows.nd rfl (Or.inl rfl) (pe_op op_mod (pe_op op_add (pv 6) (pe_callTy call_int1 rfl T.z_int bt_int (pa_cons (pe_cmpR (op_eqD (K := K) hr.units) (pe_op op_mod (pe_call (ok_l_mix T hbm) (hr.mono (by decide)) rfl T.m_l_mix T.F_l_mix.kp T.b_l_mix .nil pass0 (pa_cons (pv 5) (pa_cons pe_int pa_nil))) pe_int) pe_int (nomark _)) pa_nil))) pe_int))
    (pss_cons (ps_set (i := 8) sc_l_rows.nd rfl (Or.inl rfl) (pe_op op_add (pe_callB (call_max2 rfl) rfl T.z_max bt_max (pa_cons (pe_ix (ix_seqK (K := K) rfl) (pv 3) (pv 6) (fun _ _ => rfl)) (pa_cons (pe_ix (ix_seqK (K := K) rfl) (pv 4) (pv 7) (fun _ _ => rfl)) pa_nil))) (pe_op op_mulB (pv 1) (pe_callB (call_max2 rfl) rfl T.z_max bt_max (pa_cons pe_int (pa_cons (pe_op op_sub (pe_op op_mod (pe_call (ok_l_mix T hbm) (hr.mono (by decide)) rfl T.m_l_mix T.F_l_mix.kp T.b_l_mix .nil pass0 (pa_cons (pv 5) (pa_cons pe_int pa_nil))) pe_int) pe_int) pa_nil))))))
    (pss_cons (ps_set (i := 9) sc_l_rows.nd rfl (Or.inl rfl) (pe_op op_add (pv 8) (pe_op op_mulB (pv 1) (pe_op op_add pe_int (pe_op op_mod (pe_call (ok_l_mix T hbm) (hr.mono (by decide)) rfl T.m_l_mix T.F_l_mix.kp T.b_l_mix .nil pass0 (pa_cons (pv 5) (pa_cons pe_int pa_nil))) pe_int)))))
    (pss_cons (ps_asg (pv 9) (pg_sub (pv 3) (pv 6) set_list))
    (pss_cons (ps_asg (pv 9) (pg_sub (pv 4) (pv 7) set_list))
    (pss_one (ps_expr (pe_bm PySem.F.plainAttrs_list PySem.F.slot_list_insert PySem.F.type_list_insert mt_insert (pv 2) (pa_cons (pe_op op_mod (pe_call (ok_l_mix T hbm) (hr.mono (by decide)) rfl T.m_l_mix T.F_l_mix.kp T.b_l_mix .nil pass0 (pa_cons (pv 5) (pa_cons pe_int pa_nil))) (pe_op op_add (pe_callB (call_lenK (K := K) rfl) rfl T.z_len bt_len (pa_cons (pv 2) pa_nil)) pe_int)) (pa_cons (pe_lst (pa_cons (pv 6) (pa_cons (pv 7) (pa_cons (pv 8) (pa_cons (pv 9) pa_nil))))) pa_nil))))))))))))
    (pss_one (ps_ret (pv 2))))))),
    (ss_seq (ss_setO (sf_lst (n := 0) sa_nil (by decide)))
    (ss_seq (ss_setO (sf_rep (sf_lst (n := 1) (sa_own si_int sa_nil) (by decide)) (SemI.b si_int)))
    (ss_seq (ss_setO (sf_rep (sf_lst (n := 1) (sa_own si_int sa_nil) (by decide)) (SemI.b si_int)))
    (ss_seq (ss_for (m := false) (sw_listO (so_var 0)) (sg_name 5)
      (ss_seq (ss_set (si_mod (SemI.b (si_call (sa_any (sb_var 5) (sa_any (SemI.b si_int) sa_nil)))) (SemI.b si_int)))
    (ss_seq (ss_set (si_mod (SemI.b (si_add (sb_var 6) (SemI.b (si_intF (SemI.b (si_eq (neg := false) (SemI.b (si_mod (SemI.b (si_call (sa_any (sb_var 5) (sa_any (SemI.b si_int) sa_nil)))) (SemI.b si_int))) (SemI.b si_int))))))) (SemI.b si_int)))
    (ss_seq (ss_set (si_add (SemI.b (si_max2 (sb_ix (sb_var 3) (sb_var 6)) (sb_ix (sb_var 4) (sb_var 7)))) (SemI.b (si_mul (sb_var 1) (SemI.b (si_max2 (SemI.b si_int) (SemI.b (si_sub (SemI.b (si_mod (SemI.b (si_call (sa_any (sb_var 5) (sa_any (SemI.b si_int) sa_nil)))) (SemI.b si_int))) (SemI.b si_int)))))))))
    (ss_seq (ss_set (si_add (sb_var 8) (SemI.b (si_mul (sb_var 1) (SemI.b (si_add (SemI.b si_int) (SemI.b (si_mod (SemI.b (si_call (sa_any (sb_var 5) (sa_any (SemI.b si_int) sa_nil)))) (SemI.b si_int)))))))))
    (ss_seq (ss_put (si_var 9) (sb_var 6))
    (ss_seq (ss_put (si_var 9) (sb_var 7))
    (ss_ins (SemI.b (si_mod (SemI.b (si_call (sa_any (sb_var 5) (sa_any (SemI.b si_int) sa_nil)))) (SemI.b (si_add (SemI.b (si_len (sb_var 2))) (SemI.b si_int))))) (SemF.l (sf_lst (n := 4) (sa_own (si_var 6) (sa_own (si_var 7) (sa_own (si_var 8) (sa_own (si_var 9) sa_nil)))) (by decide)))))))))))
    (ss_frz 2 (ss_ret (si_var 2)))))))⟩
theorem ok_l_due (T : Txt K mg ad) (hbm : BmOk mg base) : FnOk P w K mg base CX0 1 ad.f_l_due ad.d_l_due ["_law_rows_here"] (spD .v K [true] F_l_due) := by
  rw [F_l_due_def]
  exact Fun.okD (N := ["_law_rows_here", "_law_begins", "_law_due_here", "_law_row", "_law_end", "_law_more", "_law_one"]) T.F_l_due sc_l_due [true] rfl B_l_due fun cdv A outer s H E hr => ⟨_,
    (pss_cons (ps_cN1 (i := 1) sc_l_due.nd rfl rfl rfl (pi_listK (K := K) rfl (pv 0)) (ts := ["_law_row"]) (zs := ["_law_rows_here"]) (k := 1) (is := [0]) rfl (.cons rfl .nil) (.cons rfl (Or.inl rfl) rfl (by first | exact Or.inl rfl | exact Or.inr rfl) .nil) rfl (low_name (by decide)) (fun _ _ _ _ _ => (pgb (by decide +kernel) rfl rfl)) (fun _ _ _ _ _ => (pt_cmpR (op_notInL (K := K) rfl hr.units) (pe_lst (pa_cons (pe_ix (ix_seqK (K := K) rfl) (pv 0) pe_int (fun _ _ => rfl)) (pa_cons (pe_ix (ix_seqK (K := K) rfl) (pv 0) pe_int (fun _ _ => rfl)) (pa_cons (pe_ix (ix_seqK (K := K) rfl) (pv 0) pe_int (fun _ _ => rfl)) pa_nil)))) (pe_cN0 rfl (pi_listK (K := K) rfl (pv 1)) (ts := ["_law_one"]) (zs := []) (k := 1) (is := []) rfl .nil .nil rfl (low_name (by decide)) (fun _ _ _ _ _ => (pgb (by decide +kernel) rfl rfl)) (fun _ _ _ _ _ => (pe_lst (pa_cons (pe_ix (ix_seqK (K := K) rfl) (pv 0) pe_int (fun _ _ => rfl)) (pa_cons (pe_ix (ix_seqK (K := K) rfl) (pv 0) pe_int (fun _ _ => rfl)) (pa_cons (pe_ix (ix_seqK (K := K) rfl) (pv 0) pe_int (fun _ _ => rfl)) pa_nil))))) rfl (by decide +kernel) rfl (by decide +kernel)) (by with_unfolding_all rfl))) (fun _ _ _ _ _ => (pv 0)) rfl (by decide +kernel) rfl (by decide +kernel))
    (pss_cons (ps_set (i := 2) sc_l_due.nd rfl (Or.inl rfl) (pe_lst pa_nil))
    (pss_cons (ps_for PassesOwn.never rfl (pi_listK (K := K) rfl (pv 1)) (pg_name (i := 3) sc_l_due.nd rfl (Or.inl rfl))
      (pss_cons (ps_set (i := 4) sc_l_due.nd rfl (Or.inl rfl) (pe_ix (ix_seqK (K := K) rfl) (pv 3) pe_int (fun _ _ => rfl)))
    (pss_cons (ps_set (i := 5) sc_l_due.nd rfl (Or.inl rfl) pe_bl)
    (pss_cons (ps_while PassesOwn.never (pt_truthK (K := K) rfl (pv 5) (fun _ => rfl))
      (pss_cons (ps_set (i := 5) sc_l_due.nd rfl (Or.inl rfl) pe_bl)
    (pss_one (ps_for PassesOwn.never rfl (pi_listK (K := K) rfl (pv 0)) (pg_name (i := 6) sc_l_due.nd rfl (Or.inl rfl))
      (pss_one (ps_if (pt_cmpR (op_eqD (K := K) hr.units) (pe_slice (sl_listK (K := K) rfl) (pv 6) po_none (po_some pe_int)) (pe_lst (pa_cons (pe_ix (ix_seqK (K := K) rfl) (pv 3) pe_int (fun _ _ => rfl)) (pa_cons (pe_ix (ix_seqK (K := K) rfl) (pv 3) pe_int (fun _ _ => rfl)) (pa_cons (pv 4) pa_nil)))) (nomark _))
      (pss_cons (ps_set (i := 4) sc_l_due.nd rfl (Or.inl rfl) (pe_ix (ix_seqK (K := K) rfl) (pv 6) pe_int (fun _ _ => rfl)))
    (pss_one (ps_set (i := 5) sc_l_due.nd rfl (Or.inl rfl) pe_bl)))
      pss_nil))))))
    (pss_one (ps_expr (pe_bm PySem.F.plainAttrs_list PySem.F.slot_list_append PySem.F.type_list_append mt_append (pv 2) (pa_cons (pe_lst (pa_cons (pe_ix (ix_seqK (K := K) rfl) (pv 3) pe_int (fun _ _ => rfl)) (pa_cons (pe_ix (ix_seqK (K := K) rfl) (pv 3) pe_int (fun _ _ => rfl)) (pa_cons (pe_ix (ix_seqK (K := K) rfl) (pv 3) pe_int (fun _ _ => rfl)) (pa_cons (pv 4) pa_nil))))) pa_nil))))))))
    (pss_one (ps_ret (pe_cN0 rfl (pi_listK (K := K) rfl (pe_callB (call_srtL (K := K) rfl rfl hr) rfl T.z_sorted bt_sorted (pa_cons (pv 2) pa_nil))) (ts := ["_law_begin", "_law_bench", "_law_work", "_law_end"]) (zs := []) (k := 4) (is := []) rfl .nil .nil rfl (low_seq (lows_cons (low_name (by decide)) (lows_cons (low_name (by decide)) (lows_cons (low_name (by decide)) (lows_cons (low_name (by decide)) lows_nil))))) (fun _ _ _ _ _ => (pg_seqK (K := K) rfl rfl (pgs_cons (pgb (by decide +kernel) rfl rfl) (pgs_cons (pgb (by decide +kernel) rfl rfl) (pgs_cons (pgb (by decide +kernel) rfl rfl) (pgs_cons (pgb (by decide +kernel) rfl rfl) pgs_nil)))))) (fun _ _ _ _ _ => (pe_lst (pa_cons (pv 1) (pa_cons (pv 2) (pa_cons (pv 0) (pa_cons (pv 3) pa_nil)))))) rfl (by decide +kernel) rfl (by decide +kernel))))))),
    (ss_seq (ss_setC (SemF.l (sf_comp (m := true) (k := 1) (cs := [0]) (SemW.c (sw_list (si_var 0))) (sg_name 0) (st_test (SemI.b (si_inL (neg := true) (SemI.b (SemF.l (sf_lst (n := 3) (sa_own (si_ix (si_var 0) (SemI.b si_int)) (sa_own (si_ix (si_var 0) (SemI.b si_int)) (sa_own (si_ix (si_var 0) (SemI.b si_int)) sa_nil))) (by decide)))) (SemI.b (SemF.l (sf_comp (m := true) (k := 1) (cs := []) (SemW.c (sw_list (si_var 1))) (sg_name 0) st_true (SemF.l (sf_lst (n := 3) (sa_own (si_ix (si_var 0) (SemI.b si_int)) (sa_own (si_ix (si_var 0) (SemI.b si_int)) (sa_own (si_ix (si_var 0) (SemI.b si_int)) sa_nil))) (by decide))))))))) (si_var 0))))
    (ss_seq (ss_setO (sf_lst (n := 0) sa_nil (by decide)))
    (ss_seq (ss_for (m := true) (sw_list (si_var 1)) (sg_name 3)
      (ss_seq (ss_set (si_ix (si_var 3) (SemI.b si_int)))
    (ss_seq (ss_set si_bl)
    (ss_seq (ss_while (st_tru (K := K) (sb_var 5))
      (ss_seq (ss_set si_bl)
    (ss_for (m := true) (sw_list (si_var 0)) (sg_name 6)
      (ss_if (st_test (SemI.b (si_eq (neg := false) (SemI.b (SemF.l (sf_sl (si_var 6) so_none (so_some (SemI.b si_int))))) (SemI.b (SemF.l (sf_lst (n := 3) (sa_own (si_ix (si_var 3) (SemI.b si_int)) (sa_own (si_ix (si_var 3) (SemI.b si_int)) (sa_own (si_var 4) sa_nil))) (by decide)))))))
      (ss_seq (ss_set (si_ix (si_var 6) (SemI.b si_int)))
    (ss_set si_bl))
      ss_pass))))
    (ss_app (SemF.l (sf_lst (n := 4) (sa_own (si_ix (si_var 3) (SemI.b si_int)) (sa_own (si_ix (si_var 3) (SemI.b si_int)) (sa_own (si_ix (si_var 3) (SemI.b si_int)) (sa_own (si_var 4) sa_nil)))) (by decide))))))))
    (ss_frz 2 (ss_ret (SemF.l (sf_comp (m := true) (k := 4) (cs := []) (SemW.c (sw_list (SemF.l (sf_srtL (si_var 2))))) (sg_un (sgs_cons (sg_name 0) (sgs_cons (sg_name 1) (sgs_cons (sg_name 2) (sgs_cons (sg_name 3) sgs_nil))))) st_true (SemF.l (sf_lst (n := 4) (sa_own (si_var 1) (sa_own (si_var 2) (sa_own (si_var 0) (sa_own (si_var 3) sa_nil)))) (by decide))))))))))⟩
theorem ok_l_like (T : Txt K mg ad) (hbm : BmOk mg base) : FnOk P w K mg base CX0 2 ad.f_l_like ad.d_l_like ["_law_found", "_law_due_here"] (spD .v K [false, false] F_l_like) := by
  rw [F_l_like_def]
  exact Fun.okD (N := ["_law_found", "_law_due_here", "_law_row", "_law_number"]) T.F_l_like sc_l_like [false, false] rfl B_l_like fun cdv A outer s H E hr => ⟨_,
    (pss_cons (ps_if (PW.pt (pw_or (pt_not (pt_truthK (K := K) rfl (pe_callB (call_isiK (K := K) rfl) rfl T.z_isinstance bt_isinstance (pa_cons (pv 0) (pa_cons (pe_bltn (v := .ty "list") rfl T.z_list bt_list rfl) pa_nil))) (fun _ => rfl))) (pw_or1 (pt_cmpR (op_neD (K := K) hr.units) (pe_callB (call_lenK (K := K) rfl) rfl T.z_len bt_len (pa_cons (pv 0) pa_nil)) (pe_callB (call_lenK (K := K) rfl) rfl T.z_len bt_len (pa_cons (pv 1) pa_nil)) (nomark _)))))
      (pss_one (ps_ret pe_bl))
      pss_nil)
    (pss_cons (ps_for PassesOwn.never rfl (pi_listK (K := K) rfl (pv 0)) (pg_name (i := 2) sc_l_like.nd rfl (Or.inl rfl))
      (pss_cons (ps_if (pt_not (pt_truthK (K := K) rfl (pe_callB (call_isiK (K := K) rfl) rfl T.z_isinstance bt_isinstance (pa_cons (pv 2) (pa_cons (pe_bltn (v := .ty "list") rfl T.z_list bt_list rfl) pa_nil))) (fun _ => rfl)))
      (pss_one (ps_ret pe_bl))
      pss_nil)
    (pss_one (ps_for PassesOwn.never rfl (pi_listK (K := K) rfl (pv 2)) (pg_name (i := 3) sc_l_like.nd rfl (Or.inl rfl))
      (pss_one (ps_if (pt_not (pt_truthK (K := K) rfl (pe_call (ok_l_whole T hbm) (hr.mono (by decide)) rfl T.m_l_whole T.F_l_whole.kp T.b_l_whole .nil pass0 (pa_cons (pv 3) pa_nil)) (fun _ => rfl)))
      (pss_one (ps_ret pe_bl))
      pss_nil))))))
    (pss_one (ps_ret (pe_cmpR (op_eqD (K := K) hr.units) (pv 0) (pv 1) (nomark _)))))),
    (ss_seq (ss_if (st_or (st_not (st_tru (K := K) (SemI.b (si_isi (n := "list") (sb_var 0))))) (st_test (SemI.b (si_eq (neg := true) (SemI.b (si_len (sb_var 0))) (SemI.b (si_len (sb_var 1)))))))
      (ss_ret si_bl)
      ss_pass)
    (ss_seq (ss_for (m := false) (sw_listO (so_var 0)) (sg_name 2)
      (ss_seq (ss_if (st_not (st_tru (K := K) (SemI.b (si_isi (n := "list") (sb_var 2)))))
      (ss_ret si_bl)
      ss_pass)
    (ss_for (m := false) (sw_listO (so_var 2)) (sg_name 3)
      (ss_if (st_not (st_tru (K := K) (SemI.b (si_call (sa_any (sb_var 3) sa_nil)))))
      (ss_ret si_bl)
      ss_pass))))
    (ss_ret (si_eq (neg := false) (sb_var 0) (sb_var 1)))))⟩
theorem ok_law (T : Txt K mg ad) (hbm : BmOk mg base) : FnOk P w K mg base CX0 3 ad.f_law ad.d_law ["_law_script"] (spD .v K [false] F_law) := by
  rw [F_law_def]
  exact Fun.okD (N := ["_law_script", "_law_unit", "_law_rows_here", "_law_handed", "_law_due_here", "_law_found", "_law_again", "_law_row"]) T.F_law sc_law [false] rfl B_law fun cdv A outer s H E hr => ⟨_,
    (pss_cons (ps_set (i := 1) sc_law.nd rfl (Or.inl rfl) (pe_ix (ix_seqK (K := K) rfl) (pe_lst (pa_cons pe_int (pa_cons pe_int (pa_cons (pe_op op_add (pe_op op_pow pe_int pe_int) pe_int) pa_nil)))) (pe_op op_mod (pe_call (ok_l_cell_at T hbm) (hr.mono (by decide)) rfl T.m_l_cell_at T.F_l_cell_at.kp T.b_l_cell_at .nil pass0 (pa_cons (pv 0) (pa_cons pe_int pa_nil))) pe_int) (fun _ _ => rfl)))
    (pss_cons (ps_set (i := 2) sc_law.nd rfl (Or.inl rfl) (pe_call (ok_l_rows T hbm) (hr.mono (by decide)) rfl T.m_l_rows T.F_l_rows.kp T.b_l_rows .nil pass0 (pa_cons (pe_slice (sl_listK (K := K) rfl) (pv 0) (po_some pe_int) (po_some pe_int)) (pa_cons (pv 1) pa_nil))))
    (pss_cons (ps_cN0 (i := 3) sc_law.nd rfl rfl rfl (pi_listK (K := K) rfl (pv 2)) (ts := ["_law_row"]) (zs := []) (k := 1) (is := []) rfl .nil .nil rfl (low_name (by decide)) (fun _ _ _ _ _ => (pgb (by decide +kernel) rfl rfl)) (fun _ _ _ _ _ => (pe_callTy (call_list_ofK (K := K) rfl) rfl T.z_list bt_list (pa_cons (pv 0) pa_nil))) rfl (by decide +kernel) rfl (by decide +kernel))
    (pss_cons (ps_set (i := 4) sc_law.nd rfl (Or.inl rfl) (pe_call (ok_l_due T hbm) (hr.mono (by decide)) rfl T.m_l_due T.F_l_due.kp T.b_l_due .nil pass0 (pa_cons (pv 2) pa_nil)))
    (pss_cons (ps_set (i := 5) sc_law.nd rfl (Or.inl rfl) (pe_call (ok_joined T hbm) (hr.mono (by decide)) rfl T.m_joined T.F_joined.kp T.b_joined .nil pass0 (pa_cons (pv 3) pa_nil)))
    (pss_cons (ps_if (PW.pt (pw_or (pt_not (pt_truthK (K := K) rfl (pe_call (ok_l_like T hbm) (hr.mono (by decide)) rfl T.m_l_like T.F_l_like.kp T.b_l_like .nil pass0 (pa_cons (pv 5) (pa_cons (pv 4) pa_nil))) (fun _ => rfl))) (pw_or1 (pt_cmpR (op_neD (K := K) hr.units) (pv 3) (pv 2) (nomark _)))))
      (pss_one (ps_ret pe_bl))
      pss_nil)
    (pss_cons (ps_set (i := 6) sc_law.nd rfl (Or.inl rfl) (pe_call (ok_joined T hbm) (hr.mono (by decide)) rfl T.m_joined T.F_joined.kp T.b_joined .nil pass0 (pa_cons (pv 5) pa_nil)))
    (pss_cons (ps_for PassesOwn.never rfl (pi_listK (K := K) rfl (pv 5)) (pg_name (i := 7) sc_law.nd rfl (Or.inl rfl)) (pss_one (ps_expr (pe_bm PySem.F.plainAttrs_list PySem.F.slot_list_append PySem.F.type_list_append mt_append (pv 7) (pa_cons pe_int pa_nil)))))
    (pss_cons (ps_expr (pe_bm PySem.F.plainAttrs_list PySem.F.slot_list_append PySem.F.type_list_append mt_append (pv 5) (pa_cons (pe_lst pa_nil) pa_nil)))
    (pss_one (ps_ret (pe_and (pe_call (ok_l_like T hbm) (hr.mono (by decide)) rfl T.m_l_like T.F_l_like.kp T.b_l_like .nil pass0 (pa_cons (pv 6) (pa_cons (pv 4) pa_nil))) (pe_and (pe_cmpR (op_eqD (K := K) hr.units) (pv 3) (pv 2) (nomark _)) (pe_one (pe_call (ok_l_like T hbm) (hr.mono (by decide)) rfl T.m_l_like T.F_l_like.kp T.b_l_like .nil pass0 (pa_cons (pe_call (ok_joined T hbm) (hr.mono (by decide)) rfl T.m_joined T.F_joined.kp T.b_joined .nil pass0 (pa_cons (pv 3) pa_nil)) (pa_cons (pv 4) pa_nil))))))))))))))))),
    (ss_seq (ss_set (si_ix (SemF.l (sf_lst (n := 3) (sa_own si_int (sa_own si_int (sa_own (si_add (SemI.b (si_pow (SemI.b si_int) (SemI.b si_int))) (SemI.b si_int)) sa_nil))) (by decide))) (SemI.b (si_mod (SemI.b (si_call (sa_any (sb_var 0) (sa_any (SemI.b si_int) sa_nil)))) (SemI.b si_int)))))
    (ss_seq (ss_set (si_call (sa_any (SemI.b (SemF.l (sf_slB (sb_var 0) (so_some (SemI.b si_int)) (so_some (SemI.b si_int))))) (sa_any (sb_var 1) sa_nil))))
    (ss_seq (ss_setC (SemF.l (sf_comp (m := true) (k := 1) (cs := []) (SemW.c (sw_list (si_var 2))) (sg_name 0) st_true (SemF.l (sf_list (si_var 0))))))
    (ss_seq (ss_set (si_call (sa_own (si_var 2) sa_nil)))
    (ss_seq (ss_setM (sm_call (sa_any (sb_var 3) sa_nil)))
    (ss_seq (ss_if (st_or (st_not (st_tru (K := K) (SemI.b (si_call (sa_any (sb_var 5) (sa_any (sb_var 4) sa_nil)))))) (st_test (SemI.b (si_eq (neg := true) (sb_var 3) (sb_var 2)))))
      (ss_ret si_bl)
      ss_pass)
    (ss_seq (ss_set (si_call (sa_any (sb_var 5) sa_nil)))
    (ss_seq ss_appR
    (ss_seq (ss_appM (sf_lst (n := 0) sa_nil (by decide)))
    (ss_ret (si_andV (SemI.b (si_call (sa_any (sb_var 6) (sa_any (sb_var 4) sa_nil)))) (si_andV (SemI.b (si_eq (neg := false) (sb_var 3) (sb_var 2))) (si_call (sa_any (SemI.b (si_call (sa_any (sb_var 3) sa_nil))) (sa_any (sb_var 4) sa_nil)))))))))))))))⟩
end
local macro_rules | `(tactic| walk_at "sd") => `(tactic| first | assumption | omega | decide | (simp only [List.length_map, List.length_cons, List.length_nil]; omega) | ((with_reducible apply And.intro) <;> walk_at "sd"))
local macro_rules | `(tactic| walk_at "fn") => `(tactic| assumption)
local macro_rules | `(tactic| walk_at "ix") => `(tactic| first | exact ixS (by omega) (by omega) | exact ixI (by omega) (by omega) | exact ix2I _ _ _ | exact ix3I _ _ _ _ | exact ix4I _ _ _ _ _ | rfl)
local macro_rules | `(tactic| walk_at "ev") => `(tactic| first
  | ((with_reducible first | apply ev_add | apply ev_sub | apply ev_lt | apply ev_le | apply ev_gt | apply ev_ge | apply ev_max2 | apply ev_min2 | apply ev_cons | apply ev_eqF | apply ev_neF); (· walk_at "ev"); (· walk_at "ev"))
  | ((with_reducible first | apply ev_neg | apply ev_t | apply ev_not | apply ev_notV | apply ev_lst | apply ev_tup | apply ev_oSome); (· walk_at "ev"))
  | ((with_reducible first | apply ev_tru | apply ev_scal | apply ev_f1 | apply ev_asL | apply ev_lof); (· walk_at "ev"); (· rfl))
  | ((with_reducible first | apply ev_and | apply ev_or | apply ev_andV | apply ev_orV); (· walk_at "ev"); (· intro _; walk_at "ev"))
  | ((with_reducible first | show dVar _ _ = _ | show dVarI _ _ = _ | show dVarO _ _ = _ | show dC _ _ = _ | show dNil _ = _ | show oNone _ = _ | show dTrue _ = _); rfl)
  | ((with_reducible apply ev_ix); (· walk_at "ev"); (· walk_at "ev"); (· walk_at "ix"))
  | ((with_reducible apply ev_call); (· walk_at "ev"); (· walk_at "fn"))
  | ((with_reducible first | apply ev_chain | apply ev_sl); (· walk_at "ev"); (· walk_at "ev"); (· walk_at "ev"))
  | ((with_reducible apply ev_mul); (· walk_at "ev"); (· walk_at "ev"); (· first | assumption | (apply imul; omega)))
  | ((with_reducible apply ev_fdiv); (· walk_at "ev"); (· walk_at "ev"); (· first | exact fdok (by omega) (by omega) | walk_at "sd"))
  | ((with_reducible first | apply ev_mod | apply ev_rg2); (· walk_at "ev"); (· walk_at "ev"); (· walk_at "sd"))
  | ((with_reducible apply ev_rg1); (· walk_at "ev"); (· walk_at "sd"))
  | ((with_reducible apply ev_rep); (· walk_at "ev"); (· walk_at "ev"); (· simp only [List.length_cons, List.length_nil]; walk_at "sd")))
local macro_rules | `(tactic| walk_at "st") => `(tactic| dsimp only [List.set_cons_succ, List.set_cons_zero])
local macro_rules | `(tactic| walk_at "go") => `(tactic| ((try dsimp only); walk_at "go1"))
local macro_rules | `(tactic| walk_at "go1") => `(tactic| first
  | ((with_reducible apply wp_seq); walk_at "go")
  | ((with_reducible apply wp_frz); dsimp only [frz, List.getD_cons_succ, List.getD_cons_zero, List.set_cons_succ, List.set_cons_zero]; walk_at "go")
  | ((with_reducible apply wp_set); (· walk_at "ev"); walk_at "st"; walk_at "go")
  | ((with_reducible apply wp_setO); (· walk_at "ev"); (· simp only [List.length_cons, List.length_nil]; omega); walk_at "st"; walk_at "go")
  | ((with_reducible apply wp_aug); (· rfl); (· walk_at "ev"); walk_at "st"; walk_at "go")
  | ((with_reducible apply wp_pass); (try dsimp only); walk_at "go")
  | skip)
abbrev R4 := Int × Int × Int × Int
namespace R4
abbrev b (r : R4) : Int := r.1
abbrev w (r : R4) : Int := r.2.1
abbrev s (r : R4) : Int := r.2.2.1
abbrev e (r : R4) : Int := r.2.2.2
end R4
def Dj (x y : R4) : Prop := x.b = y.b → x.e ≤ y.s ∨ y.e ≤ x.s
structure Ap (rs : List R4) : Prop where
  pos : ∀ r ∈ rs, r.s < r.e
  dj : rs.Pairwise Dj
def Nx (x y : R4) : Prop := y.b = x.b ∧ y.w = x.w ∧ y.s = x.e
instance (x y : R4) : Decidable (Nx x y) := by unfold Nx; infer_instance
def Le4 (x y : R4) : Prop := x.b < y.b ∨ (x.b = y.b ∧ (x.w < y.w ∨ (x.w = y.w ∧ (x.s < y.s ∨ (x.s = y.s ∧ x.e ≤ y.e)))))
theorem Dj.symm {x y : R4} (h : Dj x y) : Dj y x := fun q => (h q.symm).symm
theorem Ap.perm {rs ss : List R4} (h : Ap rs) (p : ss.Perm rs) : Ap ss := ⟨fun r hr => h.pos r (p.mem_iff.mp hr), (p.pairwise_iff fun h => Dj.symm h).mpr h.dj⟩
theorem pw_of {α : Type} {R : α → α → Prop} (sy : ∀ x y, R x y → R y x) : ∀ {l : List α}, l.Pairwise R → ∀ {x y : α}, x ∈ l → y ∈ l → x = y ∨ R x y
  | a :: l, h, x, y, hx, hy => by
    obtain ⟨h1, h2⟩ := List.pairwise_cons.mp h
    rcases List.mem_cons.mp hx with ex | hx <;> rcases List.mem_cons.mp hy with ey | hy
    · exact .inl (ex.trans ey.symm)
    · exact .inr (ex ▸ h1 y hy)
    · exact .inr (ey ▸ sy _ _ (h1 x hx))
    · exact pw_of sy h2 hx hy
theorem Ap.two {rs : List R4} (h : Ap rs) {x y : R4} (hx : x ∈ rs) (hy : y ∈ rs) (eb : x.b = y.b) (es : x.s = y.s) : x = y := by
  have h1 := h.pos x hx
  have h2 := h.pos y hy
  rcases pw_of (fun _ _ q => Dj.symm q) h.dj hx hy with q | q
  · exact q
  · rcases q eb with q | q <;> omega
inductive Fi (rs : List R4) : R4 → Int → Prop
  | stop {x : R4} : (∀ q ∈ rs, ¬ Nx x q) → Fi rs x x.e
  | step {x q : R4} {E : Int} : q ∈ rs → Nx x q → Fi rs q E → Fi rs x E
theorem Fi.uniq {rs : List R4} (h : Ap rs) {x : R4} {E F : Int} (a : Fi rs x E) (c : Fi rs x F) : E = F := by
  induction a with
  | stop h0 =>
    cases c with
    | stop => rfl
    | step hq hn _ => exact absurd hn (h0 _ hq)
  | step hq hn _ ih =>
    cases c with
    | stop h0 => exact absurd hn (h0 _ hq)
    | step hq' hn' c' =>
      have := h.two hq hq' (by have := hn.1; have := hn'.1; omega) (by have := hn.2.2; have := hn'.2.2; omega)
      subst this
      exact ih c'
theorem Fi.perm {rs ss : List R4} (p : rs.Perm ss) {x : R4} {E : Int} (a : Fi rs x E) : Fi ss x E := by
  induction a with
  | stop h0 => exact .stop fun q hq => h0 q (p.mem_iff.mpr hq)
  | step hq hn _ ih => exact .step (p.mem_iff.mp hq) hn ih
def Bg (rs : List R4) (x : R4) : Prop := ∀ q ∈ rs, ¬ Nx q x
instance (rs : List R4) (x : R4) : Decidable (Bg rs x) := by unfold Bg; infer_instance
def bg (rs : List R4) (x : R4) : Bool := decide (Bg rs x)
open Classical in
noncomputable def fin (rs : List R4) (x : R4) : Int := if h : ∃ E, Fi rs x E then h.choose else 0
theorem fin_of {rs : List R4} (h : Ap rs) {x : R4} {E : Int} (a : Fi rs x E) : fin rs x = E := by
  have hh : ∃ E, Fi rs x E := ⟨E, a⟩
  unfold fin
  rw [dif_pos hh]
  exact Fi.uniq h hh.choose_spec a
def upE (x : R4) (E : Int) : R4 := (x.b, x.w, x.s, E)
def grp : List R4 → List R4
  | [] => []
  | x :: xs => match grp xs with
    | [] => [x]
    | y :: ys => if Nx x y then upE x y.e :: ys else x :: y :: ys
theorem grp_cons_ne (x : R4) (xs : List R4) : ∃ E ys, grp (x :: xs) = upE x E :: ys := by
  show ∃ E ys, (match grp xs with | [] => [x] | y :: ys => if Nx x y then upE x y.e :: ys else x :: y :: ys) = _
  split
  · exact ⟨x.e, [], rfl⟩
  · rename_i y ys _
    split
    · exact ⟨_, _, rfl⟩
    · exact ⟨x.e, _, rfl⟩
def mrg (x : R4) : List R4 → List R4
  | [] => [x]
  | y :: ys => if Nx x y then mrg (upE x y.e) ys else x :: mrg y ys
theorem grp_up (x y : R4) (h : Nx x y) (T : List R4) : grp (upE x y.e :: T) = grp (x :: y :: T) := by
  have e1 : grp (x :: y :: T) = match grp (y :: T) with | [] => [x] | z :: ys => if Nx x z then upE x z.e :: ys else x :: z :: ys := rfl
  have e2 : grp (y :: T) = match grp T with | [] => [y] | z :: ys => if Nx y z then upE y z.e :: ys else y :: z :: ys := rfl
  have e3 : grp (upE x y.e :: T) = match grp T with | [] => [upE x y.e] | z :: ys => if Nx (upE x y.e) z then upE (upE x y.e) z.e :: ys else upE x y.e :: z :: ys := rfl
  rw [e3, e1, e2]
  cases grp T with
  | nil => exact (if_pos h).symm
  | cons z ys =>
    by_cases c : Nx y z
    · have c' : Nx (upE x y.e) z := ⟨c.1.trans h.1, c.2.1.trans h.2.1, c.2.2⟩
      simp only []
      rw [if_pos c, if_pos c']
      exact (if_pos (show Nx x (upE y z.e) from h)).symm
    · have c' : ¬ Nx (upE x y.e) z := fun q => c ⟨q.1.trans h.1.symm, q.2.1.trans h.2.1.symm, q.2.2⟩
      simp only []
      rw [if_neg c, if_neg c']
      exact (if_pos h).symm
theorem mrg_grp : ∀ (T : List R4) (x : R4), mrg x T = grp (x :: T)
  | [], x => rfl
  | y :: T, x => by
    by_cases h : Nx x y
    · rw [mrg, if_pos h, mrg_grp T, grp_up x y h]
    · rw [mrg, if_neg h, mrg_grp T]
      obtain ⟨E, ys, e⟩ := grp_cons_ne y T
      show _ = match grp (y :: T) with | [] => [x] | z :: ys => if Nx x z then upE x z.e :: ys else x :: z :: ys
      rw [e]
      exact (if_neg (show ¬ Nx x (upE y E) from h)).symm
theorem grp_is {S : List R4} (ap : Ap S) (so : S.Pairwise Le4) : ∀ (T P : List R4) (x : R4), S = P ++ x :: T → Fi S x (fin S x) ∧ grp (x :: T) = upE x (fin S x) :: (T.filter (bg S)).map fun r => upE r (fin S r)
  | [], P, x, e => by
    have st : ∀ q ∈ S, ¬ Nx x q := fun q hq hn => by
      have hx : x ∈ S := by rw [e]; simp
      have p1 := ap.pos x hx
      rw [e] at hq so
      have hq' : q ∈ P ∨ q = x := by simpa using hq
      rcases hq' with hq' | hq'
      · have := (List.pairwise_append.mp so).2.2 q hq' x (by simp)
        unfold Le4 at this; obtain ⟨n1, n2, n3⟩ := hn; omega
      · subst hq'; have := hn.2.2; omega
    have f := Fi.stop st
    rw [fin_of ap f]
    exact ⟨f, rfl⟩
  | y :: T, P, x, e => by
    obtain ⟨fy, ih⟩ := grp_is ap so T (P ++ [x]) y (by rw [e]; simp)
    have hx : x ∈ S := by rw [e]; simp
    have hy : y ∈ S := by rw [e]; simp
    have px := ap.pos x hx
    have py := ap.pos y hy
    have so' := so
    rw [e] at so'
    obtain ⟨soP, soT, soPT⟩ := List.pairwise_append.mp so'
    obtain ⟨sx, sT⟩ := List.pairwise_cons.mp soT
    obtain ⟨sy, _⟩ := List.pairwise_cons.mp sT
    have mem : ∀ q ∈ S, q ∈ P ∨ q = x ∨ q = y ∨ q ∈ T := fun q hq => by rw [e] at hq; simpa using hq
    have djxy : Dj x y := by
      have := ap.dj
      rw [e] at this
      exact (List.pairwise_cons.mp (List.pairwise_append.mp this).2.1).1 y (by simp)
    have xy := sx y (by simp)
    have nxt : ∀ q ∈ S, Nx x q → q = y := fun q hq hn => by
      have pq := ap.pos q hq
      obtain ⟨n1, n2, n3⟩ := hn
      rcases mem q hq with h | h | h | h
      · have := soPT q h x (by simp)
        unfold Le4 at this; omega
      · subst h; omega
      · exact h
      · have yq := sy q h
        unfold Le4 at xy yq
        have eb : x.b = y.b := by omega
        refine ap.two hq hy (by omega) ?_
        rcases djxy eb with d | d <;> omega
    have prv : ∀ q ∈ S, Nx q y → q = x := fun q hq hn => by
      have pq := ap.pos q hq
      obtain ⟨n1, n2, n3⟩ := hn
      rcases mem q hq with h | h | h | h
      · have qx := soPT q h x (by simp)
        unfold Le4 at xy qx
        have eb : q.b = x.b := by omega
        rcases pw_of (fun _ _ q => Dj.symm q) ap.dj hq hx with z | z
        · exact z
        · rcases z eb with d | d
          · rcases djxy (by omega) with d2 | d2 <;> omega
          · omega
      · exact h
      · subst h; omega
      · have := sy q h
        unfold Le4 at this; omega
    have eg : grp (x :: y :: T) = if Nx x y then upE x (fin S y) :: (T.filter (bg S)).map (fun r => upE r (fin S r)) else x :: upE y (fin S y) :: (T.filter (bg S)).map fun r => upE r (fin S r) := by
      show (match grp (y :: T) with | [] => [x] | z :: ys => if Nx x z then upE x z.e :: ys else x :: z :: ys) = _
      rw [ih]; rfl
    rw [eg]
    by_cases h : Nx x y
    · have fx : Fi S x (fin S y) := .step hy h fy
      rw [if_pos h, fin_of ap fx, List.filter_cons_of_neg]
      · exact ⟨fx, rfl⟩
      · unfold bg; rw [decide_eq_true_iff]; exact fun z => z x hx h
    · have fx : Fi S x x.e := .stop fun q hq hn => h (nxt q hq hn ▸ hn)
      rw [if_neg h, fin_of ap fx, List.filter_cons_of_pos]
      · exact ⟨fx, rfl⟩
      · unfold bg; rw [decide_eq_true_iff]; exact fun q hq hn => h (prv q hq hn ▸ hn)
theorem grp_all {S : List R4} (ap : Ap S) (so : S.Pairwise Le4) : grp S = (S.filter (bg S)).map fun r => upE r (fin S r) := by
  cases S with
  | nil => rfl
  | cons x T =>
    obtain ⟨_, h⟩ := grp_is ap so T [] x rfl
    rw [h, List.filter_cons_of_pos]
    · rfl
    · unfold bg; rw [decide_eq_true_iff]
      intro q hq hn
      have p1 := ap.pos q hq
      have p2 := ap.pos x (by simp)
      rcases List.mem_cons.mp hq with z | z
      · subst z; have := hn.2.2; omega
      · have := (List.pairwise_cons.mp so).1 q z
        unfold Le4 at this; obtain ⟨n1, n2, n3⟩ := hn; omega
abbrev rowL (r : R4) : List D := [.int r.b, .int r.w, .int r.s, .int r.e]
abbrev rowR (r : R4) : D := .lst (rowL r)
def zR (r : R4) : List Int := [r.b, r.w, r.s, r.e]
theorem goes_on (x y : R4) : F_goes_on [rowR x, rowR y] = some (.bl (decide (Nx x y))) := by
  refine run_eqF F_goes_on_def ?_
  rw [st_goes_on]
  unfold B_goes_on
  have e : ∀ a b : Int, dEq false (dC (.int a)) (dC (.int b)) [] = some (.bl (decide (a = b))) := fun a b => ev_eqF rfl rfl
  refine wp_ret (ev_andV (ev_eqF (ev_ix rfl rfl rfl) (ev_ix rfl rfl rfl)) fun _ => ev_andV (ev_eqF (ev_ix rfl rfl rfl) (ev_ix rfl rfl rfl)) fun _ => ev_eqF (ev_ix rfl rfl rfl) (ev_ix rfl rfl rfl)) ?_
  refine congrArg D.bl ?_
  rw [Bool.eq_iff_iff]
  simp only [Bool.and_eq_true, decide_eq_true_iff]
  unfold Nx
  constructor
  · rintro ⟨h1, h2, h3⟩; exact ⟨h1.symm, h2.symm, h3.symm⟩
  · rintro ⟨h1, h2, h3⟩; exact ⟨h1.symm, h2.symm, h3.symm⟩
def unz (z : List Int) : R4 := (z.getD 0 0, z.getD 1 0, z.getD 2 0, z.getD 3 0)
theorem unz_z (r : R4) : unz (zR r) = r := rfl
noncomputable def s4 (rs : List R4) : List R4 := (srtZ (rs.map zR)).map unz
theorem s4_z (rs : List R4) : (s4 rs).map zR = srtZ (rs.map zR) := by
  unfold s4
  rw [List.map_map]
  conv => rhs; rw [← List.map_id (srtZ (rs.map zR))]
  refine List.map_congr_left fun z hz => ?_
  obtain ⟨r, _, rfl⟩ := List.mem_map.mp ((srtZ_perm _).mem_iff.mp hz)
  rfl
theorem s4_perm (rs : List R4) : (s4 rs).Perm rs := by
  have := (srtZ_perm (rs.map zR)).map unz
  rw [List.map_map, show (unz ∘ zR) = id from funext unz_z, List.map_id] at this
  exact this
theorem lex4 {x y : R4} (h : L2.lexLt (zR y) (zR x) = false) : Le4 x y := by
  unfold zR at h
  simp only [L2.lexLt] at h
  unfold Le4
  split at h
  · split at h
    · split at h
      · split at h
        · omega
        · have := of_decide_eq_false h; omega
      · have := of_decide_eq_false h; omega
    · have := of_decide_eq_false h; omega
  · have := of_decide_eq_false h; omega
theorem s4_up (rs : List R4) : (s4 rs).Pairwise Le4 := by
  have h := srtZ_up (rs.map zR)
  rw [← s4_z, List.pairwise_map] at h
  exact h.imp fun h => lex4 h
def stp (acc : List R4) (r : R4) : List R4 := match acc.getLast? with
  | some x => if Nx x r then acc.dropLast ++ [upE x r.e] else acc ++ [r]
  | none => acc ++ [r]
theorem stp_app (acc : List R4) (x r : R4) : stp (acc ++ [x]) r = if Nx x r then acc ++ [upE x r.e] else acc ++ [x] ++ [r] := by
  unfold stp
  rw [List.getLast?_concat]
  simp only [List.dropLast_concat]
theorem fold_mrg : ∀ (T acc : List R4) (x : R4), T.foldl stp (acc ++ [x]) = acc ++ mrg x T
  | [], acc, x => rfl
  | y :: T, acc, x => by
    rw [List.foldl_cons, stp_app]
    by_cases h : Nx x y
    · rw [if_pos h, fold_mrg T, mrg, if_pos h]
    · rw [if_neg h, fold_mrg T, mrg, if_neg h, List.append_assoc]; rfl
theorem fold_grp (S : List R4) : S.foldl stp [] = grp S := by
  cases S with
  | nil => rfl
  | cons x T =>
    have := fold_mrg T [] x
    rw [mrg_grp] at this
    exact this
theorem stp_len (acc : List R4) (r : R4) : (stp acc r).length ≤ acc.length + 1 := by
  unfold stp
  split
  · split
    · simp
    · simp
  · simp
theorem fold_len : ∀ (T acc : List R4), (T.foldl stp acc).length ≤ acc.length + T.length
  | [], acc => by simp
  | r :: T, acc => by
    have h1 := fold_len T (stp acc r)
    have h2 := stp_len acc r
    rw [List.foldl_cons, List.length_cons]; omega
theorem flat4 (r : R4) : flatL (rowL r) = true := rfl
def kR (l : List D) : List Int := match l with
  | [.int b, .int _, .int s, .int _] => [s, b]
  | _ => []
noncomputable def jn (rs : List R4) : List (List D) := srtG kR ((grp (s4 rs)).map rowL)
theorem joined_ev {rs : List R4} (hl : rs.length < 64) (hn : (((grp (s4 rs)).map rowL).map kR).Nodup) : F_joined [.lst (rs.map rowR)] = some (rowsL (jn rs)) := by
  refine run_eqG F_joined_def ?_
  rw [st_joined]
  unfold B_joined
  have hs : sizeLine = 16777216 := sizeLine_eq
  refine wp_seq (wp_setM (rows := (([] : List R4).map rowL)) rfl (by simp only [List.length_cons, List.length_nil]; omega) ?_)
  walk_at "st"
  have esrt : dSrtL (dVarO 0) [.bo (.lst (rs.map rowR)), .om (([] : List R4).map rowL), .un] = some ((s4 rs).map rowR) := by
    have := dSrtL_of (a := dVarO 0) (ρ := [.bo (.lst (rs.map rowR)), .om (([] : List R4).map rowL), .un]) (zs := rs.map zR) (by
      rw [List.map_map]; rfl) (by rw [List.length_map]; exact hl)
    rw [this, ← s4_z, List.map_map]; rfl
  have hsl : (s4 rs).length < 64 := by rw [(s4_perm rs).length_eq]; exact hl
  refine wp_seq (wp_for esrt (fun j ρ => ∃ v2 : Sl, ρ = [.bo (.lst (rs.map rowR)), .om ((((s4 rs).take j).foldl stp []).map rowL), v2]) ⟨_, rfl⟩ ?_ ?_)
  · rintro j d ρ hd ⟨v2, rfl⟩
    rw [List.getElem?_map] at hd
    obtain ⟨r, hr, rfl⟩ := Option.map_eq_some_iff.mp hd
    refine ⟨_, rfl, ?_⟩
    dsimp only [gN, slm, List.set_cons_succ, List.set_cons_zero]
    have tk : ((s4 rs).take (j + 1)).foldl stp [] = stp (((s4 rs).take j).foldl stp []) r := by rw [List.take_succ, hr]; simp [List.foldl_append]
    have al : (((s4 rs).take j).foldl stp []).length < 64 := by
      have h1 := fold_len ((s4 rs).take j) []
      have h2 := List.length_take_le j (s4 rs)
      have h3 : ((s4 rs).take j).length ≤ (s4 rs).length := List.length_take_le' j (s4 rs)
      simp only [List.length_nil] at h1; omega
    rw [tk]
    generalize ((s4 rs).take j).foldl stp [] = acc at al
    rcases List.eq_nil_or_concat acc with rfl | ⟨init, x, rfl⟩
    · refine wp_if (x := false) (ev_and (x := false) (y := false) (ev_tru (d := .lst []) rfl rfl) fun z => by cases z) (fun z => by cases z) fun _ => ?_
      refine wp_appM rfl (ev_flat (ev_lof rfl rfl) (flat4 r)) (by simp; omega) ?_
      exact ⟨_, rfl⟩
    · rw [List.concat_eq_append] at *
      have hL : ((init ++ [x]).map rowL).length = init.length + 1 := by simp
      have t1 : truD (rowsL ((init ++ [x]).map rowL)) = some true := by
        show some (!(((init ++ [x]).map rowL).map D.lst).isEmpty) = _
        simp
      have ixl : ixN (init.length + 1) (-1) = some init.length := by
        unfold ixN
        rw [if_neg (by omega), if_pos (by omega)]
        exact congrArg some (by omega)
      have ix : ixD (rowsL ((init ++ [x]).map rowL)) (-1) = some (rowR x) := by
        show atI (((init ++ [x]).map rowL).map D.lst) (-1) = _
        unfold atI
        rw [List.length_map, hL, ixl]
        simp
      refine wp_if (ev_and (ev_tru rfl t1) fun _ => ev_tru (ev_call (ev_cons (ev_ix rfl rfl ix) (ev_cons rfl rfl)) (goes_on x r)) rfl) (fun h => ?_) fun h => ?_
      · have h : Nx x r := by simpa using h
        refine wp_put2 (r := init.length) (j := 3) (ds := rowL x) (n := -1) (m := 3) (d := .int r.e) rfl rfl rfl ?_ ?_ rfl rfl ?_
        · rw [hL]; exact ixl
        · rw [List.map_append, List.getElem?_append_right (by simp)]; simp
        · refine ⟨.bo (rowR r), ?_⟩
          rw [stp_app, if_pos h, List.map_append, List.set_append_right _ _ (by simp)]
          simp only [List.length_map, Nat.sub_self, List.map_append, List.map_cons, List.map_nil, List.set_cons_zero]
          rfl
      · have h : ¬ Nx x r := by simpa using h
        refine wp_appM rfl (ev_flat (ev_lof rfl rfl) (flat4 r)) (by simp only [hL]; simp at al; omega) ?_
        refine ⟨.bo (rowR r), ?_⟩
        rw [stp_app, if_neg h, List.map_append (l₁ := init ++ [x])]
        rfl
  · rintro ρ ⟨v2, rfl⟩
    rw [List.length_map, List.take_length, fold_grp]
    have hg : (grp (s4 rs)).length < 64 := by
      rw [← fold_grp]
      have := fold_len (s4 rs) []
      simp only [List.length_nil] at this; omega
    refine wp_retSM kR rfl (fun l hl' => ?_) hn (by rw [List.length_map]; exact hg) rfl
    obtain ⟨r, _, rfl⟩ := List.mem_map.mp hl'
    exact ⟨rfl, by intro z; cases z⟩
theorem fi_ex {rs : List R4} (ap : Ap rs) {r : R4} (h : r ∈ rs) : Fi rs r (fin rs r) := by
  have ap2 := ap.perm (s4_perm rs)
  obtain ⟨P, T, e⟩ := List.append_of_mem ((s4_perm rs).mem_iff.mpr h)
  have f := Fi.perm (s4_perm rs) (grp_is ap2 (s4_up rs) T P r e).1
  rw [fin_of ap f]
  exact f
theorem bg_perm {rs ss : List R4} (p : ss.Perm rs) (r : R4) : bg ss r = bg rs r := by
  unfold bg
  rw [Bool.eq_iff_iff, decide_eq_true_iff, decide_eq_true_iff]
  exact ⟨fun h q hq => h q (p.mem_iff.mpr hq), fun h q hq => h q (p.mem_iff.mp hq)⟩
noncomputable def bgs (rs : List R4) : List R4 := rs.filter (bg rs)
noncomputable def full (rs : List R4) (r : R4) : R4 := upE r (fin rs r)
theorem grp_s4 {rs : List R4} (ap : Ap rs) : grp (s4 rs) = ((s4 rs).filter (bg rs)).map (full rs) := by
  have ap2 := ap.perm (s4_perm rs)
  rw [grp_all ap2 (s4_up rs), show bg (s4 rs) = bg rs from funext fun r => bg_perm (s4_perm rs) r]
  refine List.map_congr_left fun r hr => ?_
  have hm := (s4_perm rs).mem_iff.mp ((List.mem_filter.mp hr).1)
  exact congrArg (upE r) (fin_of ap2 (Fi.perm (s4_perm rs).symm (fi_ex ap hm)))
def dz (r : R4) : List Int := [r.s, r.b, r.w, r.e]
def undz (z : List Int) : R4 := (z.getD 1 0, z.getD 2 0, z.getD 0 0, z.getD 3 0)
noncomputable def out (rs : List R4) : List R4 := (srtZ ((bgs rs).map fun r => dz (full rs r))).map undz
theorem out_dz (rs : List R4) : srtZ ((bgs rs).map fun r => dz (full rs r)) = (out rs).map dz := by
  unfold out
  rw [List.map_map]
  conv => lhs; rw [← List.map_id (srtZ _)]
  refine List.map_congr_left fun z hz => ?_
  obtain ⟨r, _, rfl⟩ := List.mem_map.mp ((srtZ_perm _).mem_iff.mp hz)
  rfl
theorem out_perm (rs : List R4) : (out rs).Perm ((bgs rs).map (full rs)) := by
  have := (srtZ_perm ((bgs rs).map fun r => dz (full rs r))).map undz
  rw [List.map_map] at this
  exact this
theorem lex_pre {x y : R4} (h : L2.lexLt (dz y) (dz x) = false) : L2.lexLt (kR (rowL y)) (kR (rowL x)) = false := by
  show L2.lexLt [y.s, y.b] [x.s, x.b] = false
  unfold dz at h
  simp only [L2.lexLt] at h ⊢
  split at h
  · rename_i e
    rw [if_pos e]
    split at h
    · rename_i e2; rw [if_pos e2]
    · rename_i e2; rw [if_neg e2]; exact h
  · rename_i e
    rw [if_neg e]; exact h
theorem keys_nd {rs : List R4} (ap : Ap rs) {l : List R4} (hl : l.Nodup) (hm : ∀ r ∈ l, r ∈ rs) : (((l.map (full rs)).map rowL).map kR).Nodup := by
  rw [List.map_map, List.map_map]
  refine List.pairwise_map.mpr (List.Pairwise.imp_of_mem (fun {x y} hx hy ne e => ne ?_) hl)
  have e : [x.s, x.b] = [y.s, y.b] := e
  injection e with e1 e2
  injection e2 with e2 _
  exact ap.two (hm x hx) (hm y hy) e2 e1
theorem Ap.nodup {rs : List R4} (ap : Ap rs) : rs.Nodup := by
  refine List.Pairwise.imp_of_mem (fun {x y} hx hy d e => ?_) ap.dj
  subst e
  have := ap.pos x hx
  rcases d rfl with h | h <;> omega
theorem jn_out {rs : List R4} (ap : Ap rs) : jn rs = (out rs).map rowL := by
  unfold jn
  have p0 : ((s4 rs).filter (bg rs)).Perm (bgs rs) := (s4_perm rs).filter _
  have nd : (((grp (s4 rs)).map rowL).map kR).Nodup := by
    rw [grp_s4 ap]
    exact keys_nd ap (List.Nodup.sublist List.filter_sublist (ap.perm (s4_perm rs)).nodup) fun r hr => (s4_perm rs).mem_iff.mp ((List.mem_filter.mp hr).1)
  refine (srtG_uniq (kg := kR) (fun _ _ => rfl) nd ?_ ?_).symm
  · rw [grp_s4 ap]
    exact ((out_perm rs).trans (p0.map _).symm).map rowL
  · have h := srtZ_up ((bgs rs).map fun r => dz (full rs r))
    rw [out_dz, List.pairwise_map] at h
    rw [List.pairwise_map]
    exact h.imp fun h => lex_pre h
theorem joined {rs : List R4} (ap : Ap rs) (hl : rs.length < 64) : F_joined [.lst (rs.map rowR)] = some (.lst ((out rs).map rowR)) := by
  rw [joined_ev hl, jn_out ap]
  · unfold rowsL; rw [List.map_map]; rfl
  · rw [grp_s4 ap]
    exact keys_nd ap (List.Nodup.sublist List.filter_sublist (ap.perm (s4_perm rs)).nodup) fun r hr => (s4_perm rs).mem_iff.mp ((List.mem_filter.mp hr).1)
theorem bg_z {rs : List R4} (x : R4) : bg rs x = !decide (([x.b, x.w, x.s] : List Int) ∈ rs.map fun q => [q.b, q.w, q.e]) := by
  unfold bg
  rw [Bool.eq_iff_iff, decide_eq_true_iff, Bool.not_eq_true', decide_eq_false_iff_not, List.mem_map]
  constructor
  · rintro h ⟨q, hq, e⟩
    injection e with e1 e; injection e with e2 e; injection e with e3 _
    exact h q hq ⟨e1.symm, e2.symm, e3.symm⟩
  · intro h q hq hn
    exact h ⟨q, hq, by rw [hn.1, hn.2.1, hn.2.2]⟩
theorem fin_step {rs : List R4} (ap : Ap rs) {x q : R4} (hq : q ∈ rs) (h : Nx x q) : fin rs x = fin rs q := fin_of ap (.step hq h (fi_ex ap hq))
theorem fin_stop {rs : List R4} (ap : Ap rs) {x : R4} (h : ∀ q ∈ rs, ¬ Nx x q) : fin rs x = x.e := fin_of ap (.stop h)
def cnt (rs : List R4) (x : R4) : Nat := (rs.filter fun q => decide (x.e ≤ q.s)).length
theorem cnt_lt {rs : List R4} {x y q : R4} (hq : q ∈ rs) (h : Nx x q) (hlt : x.e < y.e) : cnt rs y < cnt rs x := by
  unfold cnt
  induction rs with
  | nil => cases hq
  | cons a rs ih =>
    have sub : ∀ l : List R4, (l.filter fun q => decide (y.e ≤ q.s)).length ≤ (l.filter fun q => decide (x.e ≤ q.s)).length := by
      intro l
      induction l with
      | nil => exact Nat.le_refl _
      | cons c l ih2 =>
        by_cases h1 : y.e ≤ c.s
        · rw [List.filter_cons_of_pos (by simpa using h1), List.filter_cons_of_pos (by simp; omega)]; simp; exact ih2
        · rw [List.filter_cons_of_neg (by simpa using h1)]
          refine Nat.le_trans ih2 ?_
          by_cases h2 : x.e ≤ c.s
          · rw [List.filter_cons_of_pos (by simpa using h2)]; simp
          · rw [List.filter_cons_of_neg (by simpa using h2)]; exact Nat.le_refl _
    rcases List.mem_cons.mp hq with e | hq'
    · subst e
      have h3 := h.2.2
      rw [List.filter_cons_of_neg (by simp; omega), List.filter_cons_of_pos (by simp; omega)]
      have := sub rs
      simp only [List.length_cons]; omega
    · have := ih hq'
      by_cases h1 : y.e ≤ a.s
      · rw [List.filter_cons_of_pos (by simpa using h1), List.filter_cons_of_pos (by simp; omega)]; simp only [List.length_cons]; omega
      · rw [List.filter_cons_of_neg (by simpa using h1)]
        by_cases h2 : x.e ≤ a.s
        · rw [List.filter_cons_of_pos (by simpa using h2)]; simp only [List.length_cons]; omega
        · rw [List.filter_cons_of_neg (by simpa using h2)]; exact this
open Classical in
theorem eq3 (a b c a' b' c' : Int) {p q : DE} {ρ : Rho} (h1 : p ρ = some (.lst [.int a, .int b, .int c])) (h2 : q ρ = some (.lst [.int a', .int b', .int c'])) : dT (dEq false p q) ρ = some (decide (a = a' ∧ b = b' ∧ c = c')) := by
  refine ev_t ?_
  have := ev_eq (neg := false) h1 h2 (cmp_ints [a, b, c] [a', b', c'])
  rw [this, if_neg Bool.false_ne_true]
  refine congrArg some (congrArg D.bl ?_)
  refine decide_eq_decide.mpr ?_
  constructor
  · intro h
    injection h with h; injection h with h1 h; injection h with h2 h; injection h with h3 h
    exact ⟨D.int.inj h1, D.int.inj h2, D.int.inj h3⟩
  · rintro ⟨rfl, rfl, rfl⟩; rfl
theorem due {rs : List R4} (ap : Ap rs) (hl : rs.length < 64) : F_l_due [.lst (rs.map rowR)] = some (.lst ((out rs).map rowR)) := by
  refine run_eqF F_l_due_def ?_
  rw [st_l_due]
  unfold B_l_due
  have hs : sizeLine = 16777216 := sizeLine_eq
  refine wp_seq (wp_set (d := .lst ((bgs rs).map rowR)) (ev_lst ?_) ?_)
  · refine ev_compA rowR (ev_asL (d := .lst (rs.map rowR)) rfl rfl) (bg rs) rowR fun x hx => ⟨_, rfl, ?_, fun _ => rfl⟩
    refine ev_t ?_
    rw [bg_z]
    have e2 : dComp 1 [] (asL (dVarI 1)) (gN true 0) dTrue (dLst (dCons (dIx (dVarI 0) (dC (.int 0))) (dCons (dIx (dVarI 0) (dC (.int 1))) (dCons (dIx (dVarI 0) (dC (.int 3))) dNil)))) [.pu (rowR x), .pu (.lst (rs.map rowR))] = some ((rs.map fun q => ([q.b, q.w, q.e] : List Int)).map lstD) := by
      rw [List.map_map]
      exact ev_compA0 rowR (ev_asL (d := .lst (rs.map rowR)) rfl rfl) (fun q => lstD [q.b, q.w, q.e]) fun q _ => ⟨_, rfl, rfl⟩
    exact dInL_of (neg := true) (z := [x.b, x.w, x.s]) rfl (ev_asL (ev_lst e2) rfl)
  walk_at "st"
  refine wp_seq (wp_setO (ds := ([] : List R4).map fun r => lstD (dz (full rs r))) rfl (by simp only [List.length_cons, List.length_nil]; omega) ?_)
  walk_at "st"
  have hbl : (bgs rs).length < 64 := Nat.lt_of_le_of_lt (List.length_filter_le _ _) hl
  refine wp_seq (wp_for (ds := (bgs rs).map rowR) (ev_asL (d := .lst ((bgs rs).map rowR)) rfl rfl) (fun j ρ => ∃ v3 v4 v5 v6 : Sl, ρ = [.pu (.lst (rs.map rowR)), .pu (.lst ((bgs rs).map rowR)), .ol (((bgs rs).take j).map fun r => lstD (dz (full rs r))), v3, v4, v5, v6]) ⟨_, _, _, _, rfl⟩ ?_ ?_)
  · rintro j d ρ hd ⟨v3, v4, v5, v6, rfl⟩
    rw [List.getElem?_map] at hd
    obtain ⟨x, hx, rfl⟩ := Option.map_eq_some_iff.mp hd
    have hxm : x ∈ rs := (List.mem_filter.mp (List.mem_of_getElem? hx)).1
    have tk : (bgs rs).take (j + 1) = (bgs rs).take j ++ [x] := by rw [List.take_succ, hx]; rfl
    have tl : ((bgs rs).take j).length ≤ (bgs rs).length := List.length_take_le' j _
    refine ⟨_, rfl, ?_⟩
    dsimp only [gN, slm, List.set_cons_succ, List.set_cons_zero]
    rw [tk]
    generalize (bgs rs).take j = acc at tl
    refine wp_seq (wp_set (d := .int x.e) (ev_ix rfl rfl rfl) ?_)
    walk_at "st"
    refine wp_seq (wp_set rfl ?_)
    walk_at "st"
    refine wp_seq (wp_while (fun n ρ => ∃ (cur : R4) (more : Bool) (w6 : Sl), ρ = [.pu (.lst (rs.map rowR)), .pu (.lst ((bgs rs).map rowR)), .ol (acc.map fun r => lstD (dz (full rs r))), .pu (rowR x), .pu (.int cur.e), .pu (.bl more), w6] ∧ cur ∈ rs ∧ cur.b = x.b ∧ cur.w = x.w ∧ fin rs cur = fin rs x ∧ (more = true → n = 1 + cnt rs cur) ∧ (more = false → cur.e = fin rs x)) (1 + cnt rs x) ⟨x, true, _, rfl, hxm, rfl, rfl, rfl, fun _ => rfl, fun z => by cases z⟩ ?_)
    rintro n ρ ⟨cur, more, w6, rfl, hcm, hcb, hcw, hcf, hmt, hmf⟩
    refine ⟨more, ev_tru rfl rfl, fun hm => ?_, fun hm => ?_⟩
    · subst hm
      refine wp_seq (wp_set rfl ?_)
      walk_at "st"
      refine wp_for (ds := rs.map rowR) (ev_asL (d := .lst (rs.map rowR)) rfl rfl) (fun i ρ => ∃ (c2 : R4) (m2 : Bool) (w6 : Sl), ρ = [.pu (.lst (rs.map rowR)), .pu (.lst ((bgs rs).map rowR)), .ol (acc.map fun r => lstD (dz (full rs r))), .pu (rowR x), .pu (.int c2.e), .pu (.bl m2), w6] ∧ c2 ∈ rs ∧ c2.b = x.b ∧ c2.w = x.w ∧ fin rs c2 = fin rs x ∧ (m2 = true → cnt rs c2 < cnt rs cur) ∧ (m2 = false → c2 = cur ∧ ∀ q ∈ rs.take i, ¬ Nx cur q)) ⟨cur, false, _, rfl, hcm, hcb, hcw, hcf, (fun z => by cases z), fun _ => ⟨rfl, fun q hq => by simp at hq⟩⟩ ?_ ?_
      · rintro i d ρ hd ⟨c2, m2, w6, rfl, h1, h2, h3, h4, h5, h6⟩
        rw [List.getElem?_map] at hd
        obtain ⟨q, hq, rfl⟩ := Option.map_eq_some_iff.mp hd
        have hqm : q ∈ rs := List.mem_of_getElem? hq
        have tk2 : rs.take (i + 1) = rs.take i ++ [q] := by rw [List.take_succ, hq]; rfl
        refine ⟨_, rfl, ?_⟩
        dsimp only [gN, slm, List.set_cons_succ, List.set_cons_zero]
        refine wp_ifp (eq3 q.b q.w q.s x.b x.w c2.e (ev_lst (ds := [.int q.b, .int q.w, .int q.s]) (by rw [ev_sl (ds := rowL q) (l := none) (u := some 3) (ev_asL rfl rfl) rfl (ev_oSome rfl)]; rfl)) rfl) (fun h => ?_) fun h => wp_pass ?_
        · have nx : Nx c2 q := ⟨by omega, by omega, h.2.2⟩
          refine wp_seq (wp_set (d := .int q.e) (ev_ix rfl rfl rfl) ?_)
          walk_at "st"
          refine wp_set rfl ?_
          walk_at "st"
          have pq := ap.pos q hqm
          have lt2 : cnt rs q < cnt rs c2 := cnt_lt hqm nx (by omega)
          refine ⟨q, true, _, rfl, hqm, h.1, h.2.1, by rw [← fin_step ap hqm nx]; exact h4, fun _ => ?_, fun z => by cases z⟩
          cases m2 with
          | true => exact Nat.lt_trans lt2 (h5 rfl)
          | false => rw [(h6 rfl).1] at lt2; exact lt2
        · refine ⟨c2, m2, _, rfl, h1, h2, h3, h4, h5, fun hm => ⟨(h6 hm).1, fun p hp => ?_⟩⟩
          rw [tk2] at hp
          rcases List.mem_append.mp hp with hp | hp
          · exact (h6 hm).2 p hp
          · have : p = q := by simpa using hp
            subst this
            intro hn
            rw [(h6 hm).1] at h
            exact h ⟨by have := hn.1; omega, by have := hn.2.1; omega, hn.2.2⟩
      · rintro ρ ⟨c2, m2, w6, rfl, h1, h2, h3, h4, h5, h6⟩
        rw [List.length_map, List.take_length] at h6
        have hmt := hmt rfl
        cases m2 with
        | true => exact ⟨1 + cnt rs c2, by have := h5 rfl; omega, c2, true, _, rfl, h1, h2, h3, h4, fun _ => rfl, fun z => by cases z⟩
        | false =>
          obtain ⟨e, hno⟩ := h6 rfl
          subst e
          exact ⟨0, by omega, c2, false, _, rfl, h1, h2, h3, h4, (fun z => by cases z), fun _ => by rw [← h4]; exact (fin_stop ap hno).symm⟩
    · have e := hmf hm
      refine wp_app rfl (d := lstD (dz (full rs x))) ?_ (by rw [List.length_map]; omega) ?_
      · rw [e]; rfl
      · exact ⟨_, _, _, _, by rw [List.map_append]; rfl⟩
  · rintro ρ ⟨v3, v4, v5, v6, rfl⟩
    rw [List.length_map, List.take_length]
    refine wp_frz ?_
    dsimp only [frz, List.getD_cons_succ, List.getD_cons_zero, List.set_cons_succ, List.set_cons_zero]
    refine wp_ret (ev_lst (ds := (out rs).map rowR) ?_) rfl
    refine ev_compA0 (fun r => lstD (dz r)) (ev_asL (ev_lst (ds := (out rs).map fun r => lstD (dz r)) ?_) rfl) rowR fun r _ => ⟨_, rfl, rfl⟩
    show dSrtL (dVarI 2) [.pu (.lst (rs.map rowR)), .pu (.lst ((bgs rs).map rowR)), .pu (.lst ((bgs rs).map fun r => lstD (dz (full rs r)))), v3, v4, v5, v6] = _
    have := dSrtL_of (a := dVarI 2) (ρ := [.pu (.lst (rs.map rowR)), .pu (.lst ((bgs rs).map rowR)), .pu (.lst ((bgs rs).map fun r => lstD (dz (full rs r)))), v3, v4, v5, v6]) (zs := (bgs rs).map fun r => dz (full rs r)) (by rw [List.map_map]; rfl) (by rw [List.length_map]; exact hbl)
    rw [this, out_dz, List.map_map]; rfl
theorem cell_at (ns : List Int) (k : Int) (h : 0 ≤ k) : F_l_cell_at [.scr ns, .int k] = some (.int (ns.getD k.toNat 0)) := by
  refine run_eqF F_l_cell_at_def ?_
  rw [st_l_cell_at]
  unfold B_l_cell_at
  walk_at "go"
  refine wp_ifp (by walk_at "ev") (fun c => ?_) fun c => ?_
  · refine wp_ret (by walk_at "ev") rfl
  · walk_at "go"
    refine wp_ret (by walk_at "ev") ?_
    rw [List.getD_eq_getElem?_getD, List.getElem?_eq_none (by omega)]
    rfl
theorem getD_setI {xs : List Int} {j k : Nat} {v : Int} (h : j < xs.length) : (xs.set j v).getD k 0 = if k = j then v else xs.getD k 0 := by
  rw [List.getD_eq_getElem?_getD, List.getElem?_set, List.getD_eq_getElem?_getD]
  by_cases c : j = k
  · subst c
    rw [if_pos rfl, if_pos h, if_pos rfl]
    rfl
  · rw [if_neg c, if_neg (Ne.symm c)]
theorem set_mapI (xs : List Int) (j : Nat) (v : Int) : (xs.map D.int).set j (.int v) = (xs.set j v).map D.int := by rw [List.map_set]
def mixZ (x k : Int) : Int := (x * x + k * x + 7 * k * k) * 1103515245 % 2147483629
theorem mix (x k : Int) (hb : Builtin.Int.intBits x ≤ 1048576) (h0 : 0 ≤ k) (h1 : k < 1000) : F_l_mix [.int x, .int k] = some (.int (mixZ x k)) := by
  refine run_eqF F_l_mix_def ?_
  rw [st_l_mix]
  unfold B_l_mix
  refine wp_ret (ev_mod (ev_mul (ev_add (ev_add (ev_mul rfl rfl (IntMulOk.of_le hb hb (by decide))) (ev_mul rfl rfl (imul (by omega)))) (ev_mul (ev_mul rfl rfl (imul (by omega))) rfl (imul (by omega)))) rfl (imul (by omega))) rfl (by decide)) rfl
theorem mixZ_lt (x k : Int) : 0 ≤ mixZ x k ∧ mixZ x k < 2147483629 := ⟨Int.emod_nonneg _ (by decide), Int.emod_lt_of_pos _ (by decide)⟩
theorem lenRR (rs : List R4) : lenD (.lst (rs.map rowR)) = some (.int rs.length) := by show some (D.int ((rs.map rowR).length : Nat)) = _; rw [List.length_map]
theorem whole (n : Int) : F_l_whole [.int n] = some (.bl true) := by
  refine run_eqF F_l_whole_def ?_
  rw [st_l_whole]
  unfold B_l_whole
  exact wp_ret rfl rfl
theorem cmp_rows (W V : List R4) : cmpb 20 (.lst (W.map rowR)) (.lst (V.map rowR)) = true := by
  refine cmp_lst fun x hx y hy => ?_
  obtain ⟨p, _, rfl⟩ := List.mem_map.mp hx
  obtain ⟨q, _, rfl⟩ := List.mem_map.mp hy
  exact cmp_ints (zR p) (zR q)
theorem like (L : List R4) : F_l_like [.lst (L.map rowR), .lst (L.map rowR)] = some (.bl true) := by
  refine run_eqF F_l_like_def ?_
  rw [st_l_like]
  unfold B_l_like
  refine wp_seq (wp_ifF (ev_or (x := false) (y := false) (ev_not (x := true) (ev_tru rfl rfl)) fun _ => ?_) (wp_pass ?_))
  · rw [ev_t (ev_neF (ev_f1 rfl (lenRR L)) (ev_f1 rfl (lenRR L)))]; simp
  refine wp_seq (wp_for (ds := L.map rowR) (ev_asL (d := .lst (L.map rowR)) rfl rfl) (fun j ρ => ∃ v2 v3 : Sl, ρ = [.bo (.lst (L.map rowR)), .bo (.lst (L.map rowR)), v2, v3]) ⟨_, _, rfl⟩ ?_ ?_)
  · rintro j d ρ hd ⟨v2, v3, rfl⟩
    rw [List.getElem?_map] at hd
    obtain ⟨r, hr, rfl⟩ := Option.map_eq_some_iff.mp hd
    refine ⟨_, rfl, ?_⟩
    dsimp only [gN, slm, List.set_cons_succ, List.set_cons_zero]
    refine wp_seq (wp_ifF (ev_not (x := true) (ev_tru rfl rfl)) (wp_pass ?_))
    refine wp_for (ds := (zR r).map D.int) (ev_asL (d := rowR r) rfl rfl) (fun j ρ => ∃ v3 : Sl, ρ = [.bo (.lst (L.map rowR)), .bo (.lst (L.map rowR)), .bo (rowR r), v3]) ⟨_, rfl⟩ ?_ ?_
    · rintro j d ρ hd ⟨v3, rfl⟩
      rw [List.getElem?_map] at hd
      obtain ⟨n, hn, rfl⟩ := Option.map_eq_some_iff.mp hd
      refine ⟨_, rfl, ?_⟩
      dsimp only [gN, slm, List.set_cons_succ, List.set_cons_zero]
      exact wp_ifF (ev_not (x := true) (ev_tru (ev_call (ev_cons rfl rfl) (whole n)) rfl)) (wp_pass ⟨_, rfl⟩)
    · rintro ρ ⟨v3, rfl⟩
      exact ⟨_, _, rfl⟩
  · rintro ρ ⟨v2, v3, rfl⟩
    exact wp_ret (ev_eqSame rfl rfl (cmp_rows L L)) rfl
theorem ins_rows (rs : List R4) (k : Nat) (r : R4) : (rs.map rowR).take k ++ rowR r :: (rs.map rowR).drop k = (rs.take k ++ r :: rs.drop k).map rowR := by
  rw [List.map_append, List.map_cons, List.map_take, List.map_drop]
theorem ins_perm {α : Type} (rs : List α) (k : Nat) (r : α) : (rs.take k ++ r :: rs.drop k).Perm (r :: rs) := by
  have := @List.perm_middle α r (rs.take k) (rs.drop k)
  rw [List.take_append_drop] at this
  exact this
theorem l_rows (cs : List Int) (u : Int) (hu : 0 < u) (hl : cs.length ≤ 61) (hb : ∀ m ∈ cs, Builtin.Int.intBits m ≤ 1048576) : ∃ rs : List R4, F_l_rows [.lst (cs.map D.int), .int u] = some (.lst (rs.map rowR)) ∧ rs.length = cs.length ∧ Ap rs := by
  have hline : sizeLine = 16777216 := sizeLine_eq
  obtain ⟨d, e, rs, rfl, hrs⟩ := run_ofF F_l_rows_def (ds := [.lst (cs.map D.int), .int u]) (P := fun d => ∃ rs : List R4, d = .lst (rs.map rowR) ∧ rs.length = cs.length ∧ Ap rs) (by
    rw [st_l_rows]
    unfold B_l_rows
    walk_at "go"
    refine wp_for (ev_asL (d := .lst (cs.map D.int)) rfl rfl) (fun j ρ => ∃ (rs : List R4) (bs ws : List Int) (v5 v6 v7 v8 v9 : Sl), rs.length = j ∧ Ap rs ∧ (∀ r ∈ rs, (r.b = 0 ∨ r.b = 1) ∧ r.e ≤ bs.getD r.b.toNat 0) ∧ bs.length = 2 ∧ ws.length = 2 ∧ ρ = [.bo (.lst (cs.map D.int)), .bo (.int u), .ol (rs.map rowR), .ol (bs.map D.int), .ol (ws.map D.int), v5, v6, v7, v8, v9]) ⟨[], [0, 0], [0, 0], _, _, _, _, _, rfl, ⟨(fun _ h => by cases h), .nil⟩, (fun _ h => by cases h), rfl, rfl, rfl⟩ ?_ ?_
    · rintro j d ρ hd ⟨rs, bs, ws, v5, v6, v7, v8, v9, hr, hap, hbe, hbs, hws, rfl⟩
      rw [List.getElem?_map] at hd
      cases er : cs[j]? with
      | none => rw [er] at hd; cases hd
      | some x =>
        rw [er] at hd
        cases hd
        have hx := hb x (List.mem_of_getElem? er)
        have hjl := (List.getElem?_eq_some_iff.mp er).1
        refine ⟨_, rfl, ?_⟩
        dsimp only [gN, slm, List.set_cons_succ, List.set_cons_zero]
        have m1 := mixZ_lt x 1
        have m2 := mixZ_lt x 2
        have m3 := mixZ_lt x 3
        have m4 := mixZ_lt x 4
        have m5 := mixZ_lt x 5
        have k1 := mix x 1 hx (by decide) (by decide)
        have k2 := mix x 2 hx (by decide) (by decide)
        have k3 := mix x 3 hx (by decide) (by decide)
        have k4 := mix x 4 hx (by decide) (by decide)
        have k5 := mix x 5 hx (by decide) (by decide)
        generalize mixZ x 1 = a1 at *
        generalize mixZ x 2 = a2 at *
        generalize mixZ x 3 = a3 at *
        generalize mixZ x 4 = a4 at *
        generalize mixZ x 5 = a5 at *
        refine wp_seq (wp_set (ev_mod (ev_call (ev_cons rfl (ev_cons rfl rfl)) k1) rfl (by decide)) ?_)
        walk_at "st"
        have hB : 0 ≤ a1 % 2 ∧ a1 % 2 < 2 := by omega
        generalize a1 % 2 = B at hB
        refine wp_seq (wp_set (d := .int ((B + (if a2 % 3 = 0 then 1 else 0)) % 2)) (ev_mod (ev_add rfl (ev_f1 (ev_eqF (ev_mod (ev_call (ev_cons rfl (ev_cons rfl rfl)) k2) rfl (by decide)) rfl) (by by_cases c : a2 % 3 = 0 <;> simp [c, intD]))) rfl (by decide)) ?_)
        walk_at "st"
        have hW : 0 ≤ (B + (if a2 % 3 = 0 then 1 else 0)) % 2 ∧ (B + (if a2 % 3 = 0 then 1 else 0)) % 2 < 2 := by omega
        generalize (B + (if a2 % 3 = 0 then 1 else 0)) % 2 = Wk at hW
        refine wp_seq (wp_set (d := .int (max (bs.getD B.toNat 0) (ws.getD Wk.toNat 0) + u * max 0 (a3 % 5 - 2))) (ev_add (ev_max2 (ev_ix rfl rfl (ixI (by omega) (by omega))) (ev_ix rfl rfl (ixI (by omega) (by omega)))) (ev_mul rfl (ev_max2 rfl (ev_sub (ev_mod (ev_call (ev_cons rfl (ev_cons rfl rfl)) k3) rfl (by decide)) rfl)) (imul (by omega)))) ?_)
        have hbg : bs.getD B.toNat 0 ≤ max (bs.getD B.toNat 0) (ws.getD Wk.toNat 0) + u * max 0 (a3 % 5 - 2) := by
          have := Int.mul_nonneg (show 0 ≤ u by omega) (show 0 ≤ max 0 (a3 % 5 - 2) by omega)
          omega
        generalize max (bs.getD B.toNat 0) (ws.getD Wk.toNat 0) + u * max 0 (a3 % 5 - 2) = bg at hbg
        walk_at "st"
        refine wp_seq (wp_set (d := .int (bg + u * (1 + a4 % 4))) (ev_add rfl (ev_mul rfl (ev_add rfl (ev_mod (ev_call (ev_cons rfl (ev_cons rfl rfl)) k4) rfl (by decide))) (imul (by omega)))) ?_)
        have hen : bg < bg + u * (1 + a4 % 4) := by
          have := Int.mul_pos hu (show 0 < 1 + a4 % 4 by omega)
          omega
        generalize bg + u * (1 + a4 % 4) = en at hen
        walk_at "st"
        refine wp_seq (wp_put (n := B) (j := B.toNat) (ds := bs.map D.int) (d := .int en) rfl rfl rfl (by rw [List.length_map]; exact ixN_in (by omega) (by omega)) ?_)
        walk_at "st"
        refine wp_seq (wp_put (n := Wk) (j := Wk.toNat) (ds := ws.map D.int) (d := .int en) rfl rfl rfl (by rw [List.length_map]; exact ixN_in (by omega) (by omega)) ?_)
        walk_at "st"
        have e1 := Int.emod_nonneg a5 (show ((rs.length : Int) + 1) ≠ 0 by omega)
        have e2 := Int.emod_lt_of_pos a5 (show 0 < ((rs.length : Int) + 1) by omega)
        refine wp_ins (n := a5 % ((rs.length : Int) + 1)) (ds := rs.map rowR) (d := rowR (B, Wk, bg, en)) rfl (ev_mod (ev_call (ev_cons rfl (ev_cons rfl rfl)) k5) (ev_add (ev_f1 rfl (lenRR rs)) rfl) (by omega)) rfl (by rw [List.length_map]; generalize a5 % ((rs.length : Int) + 1) = z at *; omega) ?_
        rw [ins_rows, set_mapI, set_mapI]
        generalize (a5 % ((rs.length : Int) + 1)).toNat = kk
        have pm := ins_perm rs kk (B, Wk, bg, en)
        refine ⟨rs.take kk ++ (B, Wk, bg, en) :: rs.drop kk, _, _, _, _, _, _, _, ?_, ?_, fun r hm => ?_, ?_, ?_, rfl⟩
        · rw [pm.length_eq, List.length_cons]; omega
        · refine Ap.perm ⟨fun r hm => ?_, List.pairwise_cons.mpr ⟨fun r hm q => ?_, hap.dj⟩⟩ pm
          · rcases List.mem_cons.mp hm with rfl | hm
            · exact hen
            · exact hap.pos r hm
          · have q : B = r.b := q
            have := (hbe r hm).2
            rw [← q] at this
            right
            show r.e ≤ bg
            omega
        · rcases List.mem_cons.mp (pm.mem_iff.mp hm) with rfl | hm
          · refine ⟨by show B = 0 ∨ B = 1; omega, ?_⟩
            show en ≤ (bs.set B.toNat en).getD B.toNat 0
            rw [getD_setI (by omega), if_pos rfl]; omega
          · obtain ⟨h1, h2⟩ := hbe r hm
            refine ⟨h1, ?_⟩
            rw [getD_setI (by omega)]
            split
            · rename_i c
              rw [c] at h2; omega
            · exact h2
        · rw [List.length_set]; exact hbs
        · rw [List.length_set]; exact hws
    · rintro ρ ⟨rs, bs, ws, v5, v6, v7, v8, v9, hr, hap, hbe, hbs, hws, rfl⟩
      rw [List.length_map] at hr
      walk_at "go"
      exact wp_ret (by walk_at "ev") ⟨rs, rfl, hr, hap⟩)
  exact ⟨rs, e, hrs⟩
theorem pow40 {ρ : Rho} : dPow (dC (.int 10)) (dC (.int 40)) ρ = some (.int (10 ^ 40)) := ev_pow (i := 10) (j := 40) rfl rfl (by unfold CPow; decide)
theorem copy_ev {T : List R4} {ρ : Rho} {a : DE} (ha : a ρ = some (.lst (T.map rowR))) : dLst (dComp 1 [] (asL a) (gN true 0) dTrue (dLst (dLof (dVarI 0)))) ρ = some (.lst (T.map rowR)) := by
  refine ev_lst ?_
  rw [ev_compA0 rowR (ev_asL ha rfl) rowR fun r _ => ⟨_, rfl, rfl⟩]
open Classical in
theorem ev_neSame {a b : DE} {ρ : Rho} {d : D} (ha : a ρ = some d) (hb : b ρ = some d) (h : cmpb 20 d d = true) : dEq true a b ρ = some (.bl false) := by
  rw [ev_eq ha hb h, if_pos rfl, decide_eq_true rfl]; rfl
theorem fi_le {rs : List R4} (ap : Ap rs) {y : R4} (hy : y ∈ rs) (by_ : Bg rs y) {c : R4} {E : Int} (f : Fi rs c E) : c ∈ rs → c.b = y.b → c.s < y.s → E ≤ y.s := by
  have py := ap.pos y hy
  have key : ∀ c : R4, c ∈ rs → c.b = y.b → c.s < y.s → c.e ≤ y.s := fun c hc eb hlt => by
    rcases pw_of (fun _ _ q => Dj.symm q) ap.dj hc hy with q | q
    · subst q; omega
    · rcases q eb with q | q <;> omega
  induction f with
  | stop _ => exact fun hc eb hlt => key _ hc eb hlt
  | @step c q E hq hn f ih =>
    intro hc eb hlt
    have h1 := key c hc eb hlt
    obtain ⟨n1, n2, n3⟩ := hn
    have hne : q.s ≠ y.s := fun z => by
      have := ap.two hq hy (by omega) z
      subst this
      exact by_ c hc ⟨n1, n2, n3⟩
    exact ih hq (by omega) (by omega)
theorem fi_last {rs : List R4} {c : R4} {E : Int} (f : Fi rs c E) : c ∈ rs → ∃ l ∈ rs, l.b = c.b ∧ l.w = c.w ∧ l.e = E ∧ c.s ≤ l.s ∨ l.e = E ∧ l ∈ rs ∧ l.b = c.b ∧ l.w = c.w := by
  induction f with
  | stop _ => exact fun hc => ⟨_, hc, .inl ⟨rfl, rfl, rfl, Int.le_refl _⟩⟩
  | @step c q E hq hn f ih =>
    intro hc
    obtain ⟨l, hl, h⟩ := ih hq
    rcases h with ⟨h1, h2, h3, _⟩ | ⟨h3, _, h1, h2⟩
    · exact ⟨l, hl, .inr ⟨h3, hl, h1.trans hn.1, h2.trans hn.2.1⟩⟩
    · exact ⟨l, hl, .inr ⟨h3, hl, h1.trans hn.1, h2.trans hn.2.1⟩⟩
theorem fi_lt {rs : List R4} (ap : Ap rs) {c : R4} {E : Int} (f : Fi rs c E) : c ∈ rs → c.s < E := by
  induction f with
  | stop _ => exact fun hc => ap.pos _ hc
  | @step c q E hq hn f ih =>
    intro hc
    have h1 := ap.pos c hc
    have h2 := ih hq
    have := hn.2.2
    omega
theorem bgs_mem {rs : List R4} {x : R4} (h : x ∈ bgs rs) : x ∈ rs ∧ Bg rs x := by
  obtain ⟨h1, h2⟩ := List.mem_filter.mp h
  exact ⟨h1, by unfold bg at h2; exact of_decide_eq_true h2⟩
theorem full_dj {rs : List R4} (ap : Ap rs) {x y : R4} (hx : x ∈ bgs rs) (hy : y ∈ bgs rs) (ne : x ≠ y) : Dj (full rs x) (full rs y) := by
  intro eb
  have eb : x.b = y.b := eb
  obtain ⟨x1, x2⟩ := bgs_mem hx
  obtain ⟨y1, y2⟩ := bgs_mem hy
  show fin rs x ≤ y.s ∨ fin rs y ≤ x.s
  rcases Int.lt_trichotomy x.s y.s with h | h | h
  · exact .inl (fi_le ap y1 y2 (fi_ex ap x1) x1 eb h)
  · exact absurd (ap.two x1 y1 eb h) ne
  · exact .inr (fi_le ap x1 x2 (fi_ex ap y1) y1 eb.symm h)
theorem full_nx {rs : List R4} (ap : Ap rs) {x y : R4} (hx : x ∈ bgs rs) (hy : y ∈ bgs rs) : ¬ Nx (full rs x) (full rs y) := by
  rintro ⟨n1, n2, n3⟩
  have n1 : y.b = x.b := n1
  have n2 : y.w = x.w := n2
  have n3 : y.s = fin rs x := n3
  obtain ⟨l, hl, h⟩ := fi_last (fi_ex ap (bgs_mem hx).1) (bgs_mem hx).1
  refine (bgs_mem hy).2 l hl ?_
  rcases h with ⟨h1, h2, h3, _⟩ | ⟨h3, _, h1, h2⟩
  · exact ⟨by omega, by omega, by omega⟩
  · exact ⟨by omega, by omega, by omega⟩
theorem out_mem {rs : List R4} {r : R4} (h : r ∈ out rs) : ∃ x ∈ bgs rs, r = full rs x := by
  obtain ⟨x, hx, e⟩ := List.mem_map.mp ((out_perm rs).mem_iff.mp h)
  exact ⟨x, hx, e.symm⟩
theorem out_ap {rs : List R4} (ap : Ap rs) : Ap (out rs) := by
  refine Ap.perm ⟨fun r hr => ?_, ?_⟩ (out_perm rs)
  · obtain ⟨x, hx, rfl⟩ := List.mem_map.mp hr
    have h : x.s < fin rs x := fi_lt ap (fi_ex ap (bgs_mem hx).1) (bgs_mem hx).1
    exact h
  · refine List.pairwise_map.mpr (List.Pairwise.imp_of_mem (fun {x y} hx hy ne => full_dj ap hx hy ne) ?_)
    exact List.Nodup.sublist List.filter_sublist ap.nodup
theorem out_nx {rs : List R4} (ap : Ap rs) {r q : R4} (hr : r ∈ out rs) (hq : q ∈ out rs) : ¬ Nx r q := by
  obtain ⟨x, hx, rfl⟩ := out_mem hr
  obtain ⟨y, hy, rfl⟩ := out_mem hq
  exact full_nx ap hx hy
theorem out_out {rs : List R4} (ap : Ap rs) : out (out rs) = out rs := by
  have e1 : bgs (out rs) = out rs := List.filter_eq_self.mpr fun r hr => by
    unfold bg
    exact decide_eq_true fun q hq => out_nx ap hq hr
  have e2 : (bgs (out rs)).map (fun r => dz (full (out rs) r)) = (out rs).map dz := by
    rw [e1]
    refine List.map_congr_left fun r hr => congrArg dz ?_
    show upE r (fin (out rs) r) = r
    rw [fin_stop (out_ap ap) fun q hq => out_nx ap hr hq]
    rfl
  have e3 : srtZ ((out rs).map dz) = (out rs).map dz := by
    have up := srtZ_up ((bgs rs).map fun r => dz (full rs r))
    rw [out_dz] at up
    exact (srtZ_uniq (List.Perm.refl _) up).symm
  have : out (out rs) = (srtZ ((bgs (out rs)).map fun r => dz (full (out rs) r))).map undz := rfl
  rw [this, e2, e3, List.map_map]
  exact List.map_id _
theorem out_len (rs : List R4) : (out rs).length ≤ rs.length := by
  rw [(out_perm rs).length_eq, List.length_map]
  exact List.length_filter_le _ _
theorem law_true (ns : List Int) (hl : ns.length ≤ 63) (hb : ∀ m ∈ ns, Builtin.Int.intBits m ≤ 1048576) : F_law [.scr ns] = some (.bl true) := by
  have hline : sizeLine = 16777216 := sizeLine_eq
  refine run_eqF F_law_def ?_
  rw [st_law]
  unfold B_law
  refine wp_seq (wp_set (d := .int (pk3 (ns.getD (0 : Int).toNat 0 % 3) 1 7 (10 ^ 40 + 9))) (ev_ix (ev_lst (ev_cons rfl (ev_cons rfl (ev_cons (ev_add pow40 rfl) rfl)))) (ev_mod (ev_call (ev_cons rfl (ev_cons rfl rfl)) (cell_at ns 0 (by omega))) rfl (by decide)) (ix3I _ _ _ _)) ?_)
  have hu : 0 < pk3 (ns.getD (0 : Int).toNat 0 % 3) 1 7 (10 ^ 40 + 9) := by
    unfold pk3
    split
    · decide
    · split <;> decide
  generalize pk3 (ns.getD (0 : Int).toNat 0 % 3) 1 7 (10 ^ 40 + 9) = u at hu
  walk_at "st"
  have cut : cutL (ns.map D.int) (some 2) (some 63) = (cutL ns (some 2) (some 63)).map D.int := by
    unfold cutL; rw [List.map_take, List.map_drop, List.length_map]
  have lcut : (cutL ns (some 2) (some 63)).length ≤ 61 := by
    unfold cutL
    have h2 := HT.sIx_nat ns.length 0 2
    have h3 := HT.sIx_nat ns.length ns.length 63
    rw [List.length_take, List.length_drop]
    have h2 : HT.sIx ns.length 0 (some 2) = min 2 ns.length := h2
    have h3 : HT.sIx ns.length ns.length (some 63) = min 63 ns.length := h3
    rw [h2, h3]
    omega
  obtain ⟨rs, e1, l1, ap⟩ := l_rows (cutL ns (some 2) (some 63)) u hu lcut fun m hm => hb m (by
    unfold cutL at hm
    exact List.mem_of_mem_drop (List.mem_of_mem_take hm))
  refine wp_seq (wp_set (ev_call (ev_cons (ev_lst (ds := (cutL ns (some 2) (some 63)).map D.int) (ev_flat ?_ ?_)) (ev_cons rfl rfl)) e1) ?_)
  · rw [ev_sl (ds := ns.map D.int) (ev_asL (d := .scr ns) rfl rfl) rfl rfl, cut]
  · unfold flatL; rw [List.all_map]; exact List.all_eq_true.mpr fun _ _ => rfl
  walk_at "st"
  have hr : rs.length < 64 := by omega
  have ol := out_len rs
  refine wp_seq (wp_set (copy_ev rfl) ?_)
  walk_at "st"
  refine wp_seq (wp_set (ev_call (ev_cons rfl rfl) (due ap hr)) ?_)
  walk_at "st"
  have erl : rowsL ((out rs).map rowL) = .lst ((out rs).map rowR) := by unfold rowsL; rw [List.map_map]; rfl
  refine wp_seq (wp_setM (rows := (out rs).map rowL) (ev_callM (ev_cons rfl rfl) (by rw [erl]; exact joined ap hr)) (by simp only [List.length_cons, List.length_nil]; omega) ?_)
  walk_at "st"
  refine wp_seq (wp_ifF (ev_or (x := false) (y := false) (ev_not (x := true) (ev_tru (ev_call (ev_cons (d := .lst ((out rs).map rowR)) (by rw [← erl]; rfl) (ev_cons rfl rfl)) (like (out rs))) rfl)) fun _ => ev_t (ev_neSame rfl rfl (cmp_rows rs rs))) (wp_pass ?_))
  refine wp_seq (wp_set (ev_call (ev_cons (d := .lst ((out rs).map rowR)) (by rw [← erl]; rfl) rfl) (by rw [joined (out_ap ap) (by omega), out_out ap])) ?_)
  walk_at "st"
  refine wp_seq (wp_appR rfl ⟨by simp only [List.length_cons, List.length_nil]; omega, by decide, fun x hx => ?_⟩ ?_)
  · obtain ⟨r, _, rfl⟩ := List.mem_map.mp hx
    show 4 < sizeLine
    omega
  walk_at "st"
  refine wp_seq (wp_appM rfl rfl (by rw [List.length_map, List.length_map]; omega) ?_)
  walk_at "st"
  exact wp_ret (d := .bl true) (ev_andV (x := true) (y := true) (ev_call (ev_cons rfl (ev_cons rfl rfl)) (like (out rs))) fun _ => ev_andV (x := true) (y := true) (ev_eqSame rfl rfl (cmp_rows rs rs)) fun _ => ev_call (ev_cons (ev_call (ev_cons rfl rfl) (joined ap hr)) (ev_cons rfl rfl)) (like (out rs))) rfl
instance (priority := high) tabsI : Tabs := ⟨[((16 : Addr), ("joined.<locals>.<lambda>" : Str))]⟩
theorem all_mk {K : PySem.W.Frag} {h : Heap} {mg : Str → Option Value} {fa : Addr} (X : K.In h) (G : h.Ns mainGlobals mg) (hfa : mg "law" = some (.ref fa))
    {f0 : Addr} {od0 an0 : Option Addr} {sl0 : Array (Option Value)} {oc0 kV0 dc0 pm0 cd0 ct0 : Value}
    {f1 : Addr} {od1 an1 : Option Addr} {sl1 : Array (Option Value)} {oc1 kV1 dc1 pm1 cd1 ct1 : Value}
    {f2 : Addr} {od2 an2 : Option Addr} {sl2 : Array (Option Value)} {oc2 kV2 dc2 pm2 cd2 ct2 : Value}
    {f3 : Addr} {od3 an3 : Option Addr} {sl3 : Array (Option Value)} {oc3 kV3 dc3 pm3 cd3 ct3 : Value}
    {f4 : Addr} {od4 an4 : Option Addr} {sl4 : Array (Option Value)} {oc4 kV4 dc4 pm4 cd4 ct4 : Value}
    {f5 : Addr} {od5 an5 : Option Addr} {sl5 : Array (Option Value)} {oc5 kV5 dc5 pm5 cd5 ct5 : Value}
    {f6 : Addr} {od6 an6 : Option Addr} {sl6 : Array (Option Value)} {oc6 kV6 dc6 pm6 cd6 ct6 : Value}
    {f7 : Addr} {od7 an7 : Option Addr} {sl7 : Array (Option Value)} {oc7 kV7 dc7 pm7 cd7 ct7 : Value}
    {f8 : Addr} {od8 an8 : Option Addr} {sl8 : Array (Option Value)} {oc8 kV8 dc8 pm8 cd8 ct8 : Value}
    {t_BEGIN : Tok}
    {t_BENCH : Tok}
    {t_END : Tok}
    {t_WORK : Tok}
    (a0 : PySem.W.nsIn K mainGlobals "joined" = some (some (.ref f0))) (l0 : K.lookup f0 = some ⟨oc0, od0, .func (PySem.W.fnOf "joined" "joined" (defArgs s_joined) (defBody s_joined) (defScope s_joined) .none kV0 dc0 pm0 an0 cd0 ct0), sl0⟩) (c0 : PySem.W.codeIn K cd0 "joined" = true) (k0 : PySem.W.keepIn K (.ref f0) = true)
    (a1 : PySem.W.nsIn K mainGlobals "goes_on" = some (some (.ref f1))) (l1 : K.lookup f1 = some ⟨oc1, od1, .func (PySem.W.fnOf "goes_on" "goes_on" (defArgs s_goes_on) (defBody s_goes_on) (defScope s_goes_on) .none kV1 dc1 pm1 an1 cd1 ct1), sl1⟩) (c1 : PySem.W.codeIn K cd1 "goes_on" = true) (k1 : PySem.W.keepIn K (.ref f1) = true)
    (a2 : PySem.W.nsIn K mainGlobals "_law_mix" = some (some (.ref f2))) (l2 : K.lookup f2 = some ⟨oc2, od2, .func (PySem.W.fnOf "_law_mix" "_law_mix" (defArgs s_l_mix) (defBody s_l_mix) (defScope s_l_mix) .none kV2 dc2 pm2 an2 cd2 ct2), sl2⟩) (c2 : PySem.W.codeIn K cd2 "_law_mix" = true) (k2 : PySem.W.keepIn K (.ref f2) = true)
    (a3 : PySem.W.nsIn K mainGlobals "_law_whole" = some (some (.ref f3))) (l3 : K.lookup f3 = some ⟨oc3, od3, .func (PySem.W.fnOf "_law_whole" "_law_whole" (defArgs s_l_whole) (defBody s_l_whole) (defScope s_l_whole) .none kV3 dc3 pm3 an3 cd3 ct3), sl3⟩) (c3 : PySem.W.codeIn K cd3 "_law_whole" = true) (k3 : PySem.W.keepIn K (.ref f3) = true)
    (a4 : PySem.W.nsIn K mainGlobals "_law_cell_at" = some (some (.ref f4))) (l4 : K.lookup f4 = some ⟨oc4, od4, .func (PySem.W.fnOf "_law_cell_at" "_law_cell_at" (defArgs s_l_cell_at) (defBody s_l_cell_at) (defScope s_l_cell_at) .none kV4 dc4 pm4 an4 cd4 ct4), sl4⟩) (c4 : PySem.W.codeIn K cd4 "_law_cell_at" = true) (k4 : PySem.W.keepIn K (.ref f4) = true)
    (a5 : PySem.W.nsIn K mainGlobals "_law_rows" = some (some (.ref f5))) (l5 : K.lookup f5 = some ⟨oc5, od5, .func (PySem.W.fnOf "_law_rows" "_law_rows" (defArgs s_l_rows) (defBody s_l_rows) (defScope s_l_rows) .none kV5 dc5 pm5 an5 cd5 ct5), sl5⟩) (c5 : PySem.W.codeIn K cd5 "_law_rows" = true) (k5 : PySem.W.keepIn K (.ref f5) = true)
    (a6 : PySem.W.nsIn K mainGlobals "_law_due" = some (some (.ref f6))) (l6 : K.lookup f6 = some ⟨oc6, od6, .func (PySem.W.fnOf "_law_due" "_law_due" (defArgs s_l_due) (defBody s_l_due) (defScope s_l_due) .none kV6 dc6 pm6 an6 cd6 ct6), sl6⟩) (c6 : PySem.W.codeIn K cd6 "_law_due" = true) (k6 : PySem.W.keepIn K (.ref f6) = true)
    (a7 : PySem.W.nsIn K mainGlobals "_law_like" = some (some (.ref f7))) (l7 : K.lookup f7 = some ⟨oc7, od7, .func (PySem.W.fnOf "_law_like" "_law_like" (defArgs s_l_like) (defBody s_l_like) (defScope s_l_like) .none kV7 dc7 pm7 an7 cd7 ct7), sl7⟩) (c7 : PySem.W.codeIn K cd7 "_law_like" = true) (k7 : PySem.W.keepIn K (.ref f7) = true)
    (a8 : PySem.W.nsIn K mainGlobals "law" = some (some (.ref f8))) (l8 : K.lookup f8 = some ⟨oc8, od8, .func (PySem.W.fnOf "law" "law" (defArgs s_law) (defBody s_law) (defScope s_law) .none kV8 dc8 pm8 an8 cd8 ct8), sl8⟩) (c8 : PySem.W.codeIn K cd8 "law" = true) (k8 : PySem.W.keepIn K (.ref f8) = true)
    (z_bool : PySem.W.nsIn K mainGlobals "bool" = some none)
    (z_int : PySem.W.nsIn K mainGlobals "int" = some none)
    (z_isinstance : PySem.W.nsIn K mainGlobals "isinstance" = some none)
    (z_len : PySem.W.nsIn K mainGlobals "len" = some none)
    (z_list : PySem.W.nsIn K mainGlobals "list" = some none)
    (z_max : PySem.W.nsIn K mainGlobals "max" = some none)
    (z_sorted : PySem.W.nsIn K mainGlobals "sorted" = some none)
    (c_BEGIN : PySem.W.nsIn K mainGlobals "BEGIN" = some (some (.int 2 t_BEGIN)))
    (c_BENCH : PySem.W.nsIn K mainGlobals "BENCH" = some (some (.int 0 t_BENCH)))
    (c_END : PySem.W.nsIn K mainGlobals "END" = some (some (.int 3 t_END)))
    (c_WORK : PySem.W.nsIn K mainGlobals "WORK" = some (some (.int 1 t_WORK)))
    (e_joined : cd0 = .ref 20) (h_joined : PySem.W.codeHdIn K 20 16 = true) (tb_joined : ((16 : Addr), ("joined.<locals>.<lambda>" : Str)) ∈ Tabs.ts) :
    ∃ a : Adr, Txt K mg a ∧ a.f_law = fa ∧ ∀ (s : Shared) (v : Value), BindsTo s a.d_law ⟨[v], []⟩ [("_law_script", v)] := by
  have e := hfa.symm.trans (PySem.W.mg_of X G a8)
  cases e
  have F0 := fun_mk (st := s_joined) l0 c0 k0
  have F1 := fun_mk (st := s_goes_on) l1 c1 k1
  have F2 := fun_mk (st := s_l_mix) l2 c2 k2
  have F3 := fun_mk (st := s_l_whole) l3 c3 k3
  have F4 := fun_mk (st := s_l_cell_at) l4 c4 k4
  have F5 := fun_mk (st := s_l_rows) l5 c5 k5
  have F6 := fun_mk (st := s_l_due) l6 c6 k6
  have F7 := fun_mk (st := s_l_like) l7 c7 k7
  have F8 := fun_mk (st := s_law) l8 c8 k8
  have b0 := F0.binds (ps := ["rows"]) fun _ _ _ _ _ _ us hl => match us, hl with | [_], _ => rfl
  have b1 := F1.binds (ps := ["row", "later"]) fun _ _ _ _ _ _ us hl => match us, hl with | [_, _], _ => rfl
  have b2 := F2.binds (ps := ["_law_number", "_law_k"]) fun _ _ _ _ _ _ us hl => match us, hl with | [_, _], _ => rfl
  have b3 := F3.binds (ps := ["_law_found"]) fun _ _ _ _ _ _ us hl => match us, hl with | [_], _ => rfl
  have b4 := F4.binds (ps := ["_law_script", "_law_k"]) fun _ _ _ _ _ _ us hl => match us, hl with | [_, _], _ => rfl
  have b5 := F5.binds (ps := ["_law_cells", "_law_unit"]) fun _ _ _ _ _ _ us hl => match us, hl with | [_, _], _ => rfl
  have b6 := F6.binds (ps := ["_law_rows_here"]) fun _ _ _ _ _ _ us hl => match us, hl with | [_], _ => rfl
  have b7 := F7.binds (ps := ["_law_found", "_law_due_here"]) fun _ _ _ _ _ _ us hl => match us, hl with | [_, _], _ => rfl
  have b8 := F8.binds (ps := ["_law_script"]) fun _ _ _ _ _ _ us hl => match us, hl with | [_], _ => rfl
  exact ⟨⟨f0, _, f1, _, f2, _, f3, _, f4, _, f5, _, f6, _, f7, _, fa, _, 20, 16⟩, ⟨F0, b0, PySem.W.mg_of X G a0, F1, b1, PySem.W.mg_of X G a1, F2, b2, PySem.W.mg_of X G a2, F3, b3, PySem.W.mg_of X G a3, F4, b4, PySem.W.mg_of X G a4, F5, b5, PySem.W.mg_of X G a5, F6, b6, PySem.W.mg_of X G a6, F7, b7, PySem.W.mg_of X G a7, F8, b8, PySem.W.mg_of X G a8, e_joined, h_joined, tb_joined, PySem.W.mg_none_of X G z_bool, PySem.W.mg_none_of X G z_int, PySem.W.mg_none_of X G z_isinstance, PySem.W.mg_none_of X G z_len, PySem.W.mg_none_of X G z_list, PySem.W.mg_none_of X G z_max, PySem.W.mg_none_of X G z_sorted, ⟨_, PySem.W.mg_of X G c_BEGIN⟩, ⟨_, PySem.W.mg_of X G c_BENCH⟩, ⟨_, PySem.W.mg_of X G c_END⟩, ⟨_, PySem.W.mg_of X G c_WORK⟩⟩, rfl, fun s v => .of_eq rfl⟩
theorem lookup_in {p : Addr} {q : Str} : ∀ {l : List (Addr × Str)}, l.lookup p = some q → (p, q) ∈ l
  | [], h => by cases h
  | (a, b) :: l, h => by
    rw [List.lookup_cons] at h
    cases e : p == a with
    | true => rw [e] at h; cases h; rw [beq_iff_eq.mp e]; exact List.mem_cons_self
    | false => rw [e] at h; exact List.mem_cons_of_mem _ (lookup_in h)
theorem walk {l : PySem.W.OpenLaw} {q : Program} {loose : List Str} {XP : (Str → Option Value) → Heap → Prop} {YP : World → Heap → Prop} {d : DefRec} {K : Params → PySem.W.Frag} (hn : l.most = some 63) (hdf : d.params.defaults = [])
    (hY : ∀ (w : World) (h : Heap), YP w h → (K w.params).In h) (hT0 : ∀ (w : World) (h : Heap), YP w h → h.get? 16 = some (PySem.W.tabObj #[])) (hN0 : ∀ w : World, (K w.params).lookup 16 = none) (hC0 : ∀ w : World, PySem.W.codeHdIn (K w.params) 20 16 = true)
    (F : ∀ (w : World) (mg : Str → Option Value) (fa : Addr) (h : Heap), (K w.params).In h → h.Ns mainGlobals mg → mg d.name = some (.ref fa) → ∃ a : Adr, Txt (K w.params) mg a ∧ a.f_law = fa ∧ ∀ (s : Shared) (v : Value), BindsTo s a.d_law ⟨[v], []⟩ [("_law_script", v)]) :
    PySem.W.WalkO q loose XP YP l.row.toRowW d [] (fun f vs => PySem.call f vs) :=
  L2.walk_ofT (n := 63) (k := 3) (x := "_law_script") (CX := fun _ => CX0) (sp := fun w => sp_law (K w.params)) [((16 : Addr), ("joined.<locals>.<lambda>" : Str))] hn (by decide) hdf ⟨rfl, by decide, by decide⟩ hY
    (fun w h Y p q e => by
      have m := lookup_in e; simp only [List.mem_cons, Prod.mk.injEq, List.not_mem_nil, or_false] at m; rcases m with ⟨rfl, _⟩
      · exact hT0 w h Y)
    (fun w p q e => by
      have m := lookup_in e; simp only [List.mem_cons, Prod.mk.injEq, List.not_mem_nil, or_false] at m; rcases m with ⟨rfl, _⟩
      · exact ⟨hN0 w, 20, hC0 w⟩)
    (fun w mg fa h KX G e => by
      obtain ⟨a, T, rfl, hb⟩ := F w mg fa h KX G e
      exact ⟨a.d_law, hb, fun base kb nb bm => (ok_law T bm).imp fun vs H Q E h => sp_law_of law_true h⟩)
    (fun _ H a ns hl hbits ht hS => ⟨a, ns, rfl, hS, hl, hbits, (fun p hp => by
      have m : p ∈ ([((16 : Addr), ("joined.<locals>.<lambda>" : Str))] : List (Addr × Str)) := hp
      simp only [List.mem_cons, List.not_mem_nil, or_false] at m
      rcases m with rfl
      · exact ⟨0, ht _ _ (by first | rfl | simp)⟩), fun _ => rfl⟩) fun _ _ _ _ _ z => z
end My
open PySem PySem.W PyProof.Rows
set_option maxRecDepth 100000 in
set_option maxHeartbeats 0 in
theorem PySem.Challenge.cw_leastfloor_k03_rows_joined_holds : PySem.Challenge.rw_leastfloor_k03_rows_joined.Holds := by
  w_on; o_law; k_head; (case hw => w_witness2)
  k_fill
  refine My.walk (l := PySem.Challenge.rw_leastfloor_k03_rows_joined) rfl rfl (fun w h Y => by first | exact PySem.W.kIn_of Y | exact PySem.W.km_in_of Y) (fun w h Y => PySem.W.km_tabs_of Y _ (by k_mem)) (fun w => by kernel_rfl) (fun w => by kernel_rfl) ?F
  case F =>
    intro w mg fa h KX G hmg
    refine' My.all_mk KX G hmg ?a0 ?l0 ?c0 ?k0 ?a1 ?l1 ?c1 ?k1 ?a2 ?l2 ?c2 ?k2 ?a3 ?l3 ?c3 ?k3 ?a4 ?l4 ?c4 ?k4 ?a5 ?l5 ?c5 ?k5 ?a6 ?l6 ?c6 ?k6 ?a7 ?l7 ?c7 ?k7 ?a8 ?l8 ?c8 ?k8 ?z_bool ?z_int ?z_isinstance ?z_len ?z_list ?z_max ?z_sorted ?c_BEGIN ?c_BENCH ?c_END ?c_WORK ?e_joined ?h_joined ?tb_joined
    (case a0 => k_is); (case l0 => k_is); (case c0 => k_is); (case k0 => k_is)
    (case a1 => k_is); (case l1 => k_is); (case c1 => k_is); (case k1 => k_is)
    (case a2 => k_is); (case l2 => k_is); (case c2 => k_is); (case k2 => k_is)
    (case a3 => k_is); (case l3 => k_is); (case c3 => k_is); (case k3 => k_is)
    (case a4 => k_is); (case l4 => k_is); (case c4 => k_is); (case k4 => k_is)
    (case a5 => k_is); (case l5 => k_is); (case c5 => k_is); (case k5 => k_is)
    (case a6 => k_is); (case l6 => k_is); (case c6 => k_is); (case k6 => k_is)
    (case a7 => k_is); (case l7 => k_is); (case c7 => k_is); (case k7 => k_is)
    (case a8 => k_is); (case l8 => k_is); (case c8 => k_is); (case k8 => k_is)
    (case z_bool => k_is); (case z_int => k_is); (case z_isinstance => k_is); (case z_len => k_is)
    (case z_list => k_is); (case z_max => k_is); (case z_sorted => k_is); (case c_BEGIN => k_is)
    (case c_BENCH => k_is); (case c_END => k_is); (case c_WORK => k_is); (case e_joined => rfl)
    (case h_joined => kernel_rfl); (case tb_joined => exact List.mem_cons_self)
#print axioms PySem.Challenge.cw_leastfloor_k03_rows_joined_holds
