import PyProof.Rows.All
import Wide.All
import OpenK.AllK
import Wide.FinOn
import Lean
import PyProof.EqAt
import PyProof.EqKinds
import PyProof.TupleCall
import PySem.Challenge.RW_leastfloor_k22_whole_phases
set_option compiler.extract_closed false
set_option Elab.async false
set_option linter.all false
set_option maxRecDepth 100000
namespace L2
open PySem PySem.Spec PyProof.Rows
abbrev Key:=Sum Int Str
def keyIs:Key→Value→Bool
  | .inl k,v=>Value.isInt k v
  | .inr x,v=>Value.isStrOf x v
def keyH (w:World):Key→Int
  | .inl k=>hashInt k
  | .inr x=>hashStr w x
theorem keyIs_shape:∀ {k:Key} {v:Value},keyIs k v=true→(∃ i t,k=Sum.inl i∧v=Value.int i t)∨(∃ x t,k=Sum.inr x∧v=Value.str x t)
  | .inl i,v,h=>by
    obtain ⟨t,e⟩:=Value.isInt_shape (k:=i) (v:=v) h
    exact .inl ⟨i,t,rfl,e⟩
  | .inr x,v,h=>by
    obtain ⟨t,e⟩:=Value.isStrOf_shape (x:=x) (v:=v) h
    exact .inr ⟨x,t,rfl,e⟩
theorem keyIs_int (i:Int) (t:Tok):keyIs (.inl i) (.int i t)=true:=by simp [keyIs,Value.isInt]
theorem keyIs_str (x:Str) (t:Tok):keyIs (.inr x) (.str x t)=true:=by simp [keyIs,Value.isStrOf]
theorem key_ll (a b:Int):decide ((Sum.inl a:Key)=Sum.inl b)=(a==b):=by
  by_cases e:a=b
  · subst e; simp
  · have h:¬ (Sum.inl a:Key)=Sum.inl b:=fun q=>e (Sum.inl.inj q)
    rw [decide_eq_false h]
    exact (beq_eq_false_iff_ne.mpr e).symm
theorem key_rr (a b:Str):decide ((Sum.inr a:Key)=Sum.inr b)=decide (a=b):=by
  by_cases e:a=b
  · subst e; simp
  · have h:¬ (Sum.inr a:Key)=Sum.inr b:=fun q=>e (Sum.inr.inj q)
    rw [decide_eq_false h,decide_eq_false e]
theorem key_lr (a:Int) (b:Str):decide ((Sum.inl a:Key)=Sum.inr b)=false:=decide_eq_false (fun q=>nomatch q)
theorem key_rl (a:Str) (b:Int):decide ((Sum.inr a:Key)=Sum.inl b)=false:=decide_eq_false (fun q=>nomatch q)
def mixKind (prog:Program) (w:World):PySem.KeyKind prog w Key where
  is:=keyIs
  hash:=keyH w
  inj:=fun v a b ha hb=>by
    rcases keyIs_shape ha with ⟨i,t,rfl,rfl⟩ | ⟨x,t,rfl,rfl⟩
    · rcases keyIs_shape hb with ⟨j,u,rfl,e⟩ | ⟨y,u,rfl,e⟩
      · injection e with e1 _; rw [e1]
      · exact nomatch e
    · rcases keyIs_shape hb with ⟨j,u,rfl,e⟩ | ⟨y,u,rfl,e⟩
      · exact nomatch e
      · injection e with e1 _; rw [e1]
  byValue:=fun k v h=>by
    rcases keyIs_shape h with ⟨i,t,rfl,rfl⟩ | ⟨x,t,rfl,rfl⟩ <;> rfl
  pyHash:=fun hv h=>by
    rcases keyIs_shape hv with ⟨i,t,rfl,rfl⟩ | ⟨x,t,rfl,rfl⟩
    · exact wpAny_pyHash_int h
    · exact wpAny_pyHash_str h
  eqBool:=fun hu hv h=>by
    rcases keyIs_shape hu with ⟨i,t,rfl,rfl⟩ | ⟨x,t,rfl,rfl⟩
    · rcases keyIs_shape hv with ⟨j,u,rfl,rfl⟩ | ⟨y,u,rfl,rfl⟩
      · rw [key_ll] at h; exact wpAny_eqBool_int h
      · rw [key_lr] at h; exact SeqAt.EqAt.int_str i t y u _ _ _ _ h
    · rcases keyIs_shape hv with ⟨j,u,rfl,rfl⟩ | ⟨y,u,rfl,rfl⟩
      · rw [key_rl] at h; exact SeqAt.EqAt.str_int x t j u _ _ _ _ h
      · rw [key_rr] at h; exact wpAny_eqBool_str h
  «strs»:=fun k x t v h=>by
    rcases keyIs_shape h with ⟨i,u,rfl,e⟩ | ⟨y,u,rfl,e⟩
    · exact nomatch e
    · injection e with e1 _
      subst e1
      cases v <;> rfl
theorem mixKind_int (prog:Program) (w:World) (i:Int) (t:Tok):(mixKind prog w).is (.inl i) (.int i t)=true:=keyIs_int i t
theorem mixKind_str (prog:Program) (w:World) (x:Str) (t:Tok):(mixKind prog w).is (.inr x) (.str x t)=true:=keyIs_str x t
end L2
namespace L2
open PySem PySem.Spec PyProof.Rows
inductive V where
  | non | bl (b:Bool) | int (i:Int) | str (x:Str) | byt (b:Array UInt8) | flt (b:UInt64) | ref (a:Addr) | ty (n:String)
  deriving DecidableEq
def RelV:V→Value→Prop
  | .non,u=>u=Value.none
  | .bl b,u=>u=Value.bool b
  | .int i,u=>∃ t,u=Value.int i t
  | .str x,u=>∃ t,u=Value.str x t
  | .byt b,u=>∃ t,u=Value.bytes b t
  | .flt b,u=>∃ t,u=Value.float b t
  | .ref a,u=>u=Value.ref a
  | .ty n,u=>u=Value.type n
abbrev Vals:List V→List Value→Prop:=Paired RelV
theorem Vals.length {xs:List V} {us:List Value} (r:Vals xs us):xs.length=us.length:=Paired.length r
theorem Vals.get:∀ {xs:List V} {us:List Value} {i:Nat} {x:V},Vals xs us→xs[i]?=some x→∃ u,us[i]?=some u∧RelV x u
  | _,_,_,_,.nil,e=>by simp at e
  | _,_,0,_,.cons r _,e=>by simp at e; subst e; exact ⟨_,rfl,r⟩
  | _,_,i+1,x,.cons _ t,e=>by
    obtain ⟨u,h1,h2⟩:=Vals.get (i:=i) (x:=x) t (by simpa using e)
    exact ⟨u,by simpa using h1,h2⟩
theorem Vals.set {x:V} {u:Value} (r:RelV x u):∀ {xs:List V} {us:List Value} (i:Nat),Vals xs us→Vals (xs.set i x) (us.set i u)
  | _,_,_,.nil=>.nil
  | _,_,0,.cons _ t=>.cons r t
  | _,_,i+1,.cons q t=>.cons q (Vals.set r i t)
theorem Vals.append:∀ {xs ys:List V} {us ws:List Value},Vals xs us→Vals ys ws→Vals (xs++ys) (us++ws)
  | _,_,_,_,.nil,s=>s
  | _,_,_,_,.cons r t,s=>.cons r (Vals.append t s)
def RelO:Option V→Option Value→Prop
  | some v,some u=>RelV v u
  | none,none=>True
  | _,_=>False
def KV {κ:Type}:List (κ×V)→List (κ×Value)→Prop:=Paired fun (p:κ×V) (q:κ×Value)=>p.1=q.1∧RelV p.2 q.2
def kV:Key→V
  | .inl i=>.int i
  | .inr x=>.str x
inductive HO where
  | lst (xs:List V)
  | tup (xs:List V)
  | dK (kvs:List (Key×V)) | dT (kvs:List (List Key×V))
  | set (S:Int→Bool) (n:Nat)
  | ins (C dx:Addr) (fs:List (Str×V))
  | own (x:Addr)
  | xd (fs:List (Str×V))
  | met (f x:Addr)
  | rng (lo hi:Int)
  | frz (o:Obj) (u:HO)
  | tbl (ps:Array Value)
  | ext (φ:Heap→Prop)
abbrev Hp:=Addr→Option HO
def upd (H:Hp) (a:Addr) (o:HO):Hp:=fun b=>if b=a then some o else H b
theorem upd_same {H:Hp} {a:Addr} {o:HO}:upd H a o a=some o:=by unfold upd; rw [if_pos rfl]
theorem upd_ne {H:Hp} {a b:Addr} {o:HO} (h:b≠a):upd H a o b=H b:=by unfold upd; rw [if_neg h]
theorem upd_upd {H:Hp} {a:Addr} {o u:HO}:upd (upd H a o) a u=upd H a u:=by
  funext b; unfold upd; split <;> rfl
theorem ne_of {H:Hp} {a b:Addr} {o u:HO} (h:H a=some o) (h':H b=some u) (d:o≠u):a≠b:=by
  intro e; subst e; rw [h] at h'; exact d (Option.some.inj h')
theorem ne_of_none {H:Hp} {a b:Addr} {o:HO} (h:H a=some o) (h':H b=none):a≠b:=by
  intro e; subst e; rw [h] at h'; cases h'
section
variable (P:Program) (w:World)
def ObjOk (H:Hp) (h:Heap) (a:Addr):HO→Prop
  | .lst xs=>xs.length≤sizeLine∧∃ (its:List Value) (n:Nat),Vals xs its∧h.get? a=some { cls:=.type "list", data:=.seq its.toArray n }
  | .tup xs=>xs.length≤sizeLine∧∃ its:List Value,Vals xs its∧IsTup h a its.toArray
  | .dK kvs=>kvs.length≤sizeLine∧(a==sysModules)=false∧∃ vs,KV kvs vs∧h.DictOf (mixKind P w) a vs
  | .dT kvs=>kvs.length≤sizeLine∧(a==sysModules)=false∧∃ xs:List (List Key×Addr×Value),
      Paired (fun (p:List Key×V) (q:List Key×Addr×Value)=>p.1=q.1∧H q.2.1=some (.tup (p.1.map kV))∧RelV p.2 q.2.2) kvs xs ∧
      ∃ o es ep,h.get? a=some o∧o.ExactDict∧o.data=.dict es ep∧es.toList=xs.map (entryOfKey (tupleKind (mixKind P w)))∧(xs.map (·.1)).Nodup
  | .set S n=>h.SetOf (intKind P w) a S n
  | .ins C dx fs=>H dx=some (.own a)∧fs.length≤1000∧dx≠a∧h.get? a=some (PySem.W.instObj C dx) ∧
      ∃ mA,h.Ns1 dx mA∧(∀ f,RelO (fs.lookup f) (mA f))∧PySem.Within mA (fs.map (·.1))
  | .own _=>∃ o,h.get? a=some o
  | .xd fs=>∃ mA,h.Ns1 a mA∧∀ f,RelO (fs.lookup f) (mA f)
  | .rng lo hi=>∃ t u v,h.get? a=some { cls:=.type "range", data:=.fields #[.int lo t,.int hi u,.int 1 v] }
  | .frz o u=>h.get? a=some o∧ObjOk H h a u
  | .tbl ps=>∃ (q:Str) (t:Tok) (qs:Array Value),ps[0]?=some (.str q t)∧h.get? a=some { cls:=.none,data:=.fields qs }∧TriplesOk qs.toList ∧
      ∀ pos v,codeAmong pos qs.toList=some v→∃ c o u vs t,v=.ref c∧H c=some (.frz o u)∧o.data=.fields vs∧vs[1]?=some (.str q t)
  | .met f x=>h.get? a=some (PySem.W.methodObj (.ref f) (.ref x))
  | .ext φ=>φ h∧(∃ o,h.get? a=some o)∧∀ h1 h2:Heap,φ h1→(∀ o,h1.get? a=some o→h2.get? a=some o)→φ h2
def HOk (H:Hp) (h:Heap):Prop:=∀ a o,H a=some o→ObjOk P w H h a o
end
section
variable {P:Program} {w:World} {H H':Hp} {h h':Heap} {a:Addr} {o:HO}
theorem ObjOk.lt (x:ObjOk P w H h a o):a<h.objs.size:=by
  cases o with
  | lst xs=>obtain ⟨_,_,_,_,e⟩:=x; exact Heap.lt_size e
  | tup xs=>obtain ⟨_,_,_,p⟩:=x; exact p.lt
  | dK kvs=>obtain ⟨_,_,_,_,o,_,_,e,_⟩:=x; exact Heap.lt_size e
  | dT kvs=>obtain ⟨_,_,_,_,o,_,_,e,_⟩:=x; exact Heap.lt_size e
  | set S n=>obtain ⟨o,_,_,_,e,_⟩:=x; exact Heap.lt_size e
  | ins C dx fs=>obtain ⟨_,_,_,e,_⟩:=x; exact Heap.lt_size e
  | own y=>obtain ⟨_,e⟩:=x; exact Heap.lt_size e
  | xd fs=>obtain ⟨_,⟨_,_,_,e,_⟩,_⟩:=x; exact Heap.lt_size e
  | rng lo hi=>obtain ⟨_,_,_,e⟩:=x; exact Heap.lt_size e
  | frz ob u=>obtain ⟨e,_⟩:=x; exact Heap.lt_size e
  | tbl ps=>obtain ⟨_,_,_,_,e,_⟩:=x; exact Heap.lt_size e
  | met f y=>exact Heap.lt_size (show h.get? a=some _ from x)
  | ext φ=>obtain ⟨_,⟨_,e⟩,_⟩:=x; exact Heap.lt_size e
theorem Paired.mapP {α β:Type} {F G:α→β→Prop}:∀ {l₁:List α} {l₂:List β},Paired F l₁ l₂→(∀ a b,F a b→G a b)→Paired G l₁ l₂
  | _,_,.nil,_=>.nil
  | _,_,.cons r t,f=>.cons (f _ _ r) (Paired.mapP t f)
theorem ObjOk.stay (x:ObjOk P w H h a o) (k:∀ b u,(b=a∨H b=some (.own a))→h.get? b=some u→h'.get? b=some u)
    (ho:∀ b,H b=some (.own a)→H' b=some (.own a)) (ht:∀ b xs,H b=some (.tup xs)→H' b=some (.tup xs)) (hz:∀ b o u,H b=some (.frz o u)→H' b=some (.frz o u):=by first | exact fun _ _ _ q=>q | (intro b o u q; rw [upd_ne (ne_of_none q (by assumption))]; exact q)):ObjOk P w H' h' a o:=by
  induction o with
  | lst xs=>obtain ⟨z,its,n,r,e⟩:=x; exact ⟨z,its,n,r,k _ _ (.inl rfl) e⟩
  | tup xs=>obtain ⟨z,its,r,ob,e,c⟩:=x; exact ⟨z,its,r,ob,k _ _ (.inl rfl) e,c⟩
  | dK kvs=>obtain ⟨z,y,vs,r,ob,es,ep,e,c⟩:=x; exact ⟨z,y,vs,r,ob,es,ep,k _ _ (.inl rfl) e,c⟩
  | dT kvs =>
    obtain ⟨z,y,xs,r,ob,es,ep,e,c⟩:=x
    exact ⟨z,y,xs,Paired.mapP r fun p q z=>⟨z.1,ht _ _ z.2.1,z.2.2⟩,ob,es,ep,k _ _ (.inl rfl) e,c⟩
  | set S n=>obtain ⟨ob,es,ep,t,e,c⟩:=x; exact ⟨ob,es,ep,t,k _ _ (.inl rfl) e,c⟩
  | ins C dx fs =>
    obtain ⟨d,z,ne,e,mA,⟨od,es,ep,e2,c⟩,r⟩:=x
    exact ⟨ho _ d,z,ne,k _ _ (.inl rfl) e,mA,⟨od,es,ep,k _ _ (.inr d) e2,c⟩,r⟩
  | own y=>obtain ⟨ob,e⟩:=x; exact ⟨ob,k _ _ (.inl rfl) e⟩
  | xd fs=>obtain ⟨mA,⟨od,es,ep,e,c⟩,r⟩:=x; exact ⟨mA,⟨od,es,ep,k _ _ (.inl rfl) e,c⟩,r⟩
  | rng lo hi=>obtain ⟨t,u,v,e⟩:=x; exact ⟨t,u,v,k _ _ (.inl rfl) e⟩
  | frz ob u ih=>obtain ⟨e,q⟩:=x; exact ⟨k _ _ (.inl rfl) e,ih q⟩
  | tbl ps =>
    obtain ⟨q,t,qs,h0,h1,h2,h3⟩:=x
    refine ⟨q,t,qs,h0,k _ _ (.inl rfl) h1,h2,fun pos v e=>?_⟩
    obtain ⟨c,o,u,vs,t2,e1,e2,e3⟩:=h3 pos v e
    exact ⟨c,o,u,vs,t2,e1,hz _ _ _ e2,e3⟩
  | met f y =>
    have e:h.get? a=some (PySem.W.methodObj (.ref f) (.ref y)):=x
    show h'.get? a=some (PySem.W.methodObj (.ref f) (.ref y))
    exact k a _ (.inl rfl) e
  | ext φ=>obtain ⟨p,⟨o,e⟩,st⟩:=x; exact ⟨st _ _ p fun o q=>k _ _ (.inl rfl) q,⟨o,k _ _ (.inl rfl) e⟩,st⟩
theorem HOk.lt (x:HOk P w H h) (e:H a=some o):a<h.objs.size:=(x a o e).lt
theorem HOk.fresh (x:HOk P w H h) (e:h.objs.size≤a):H a=none:=by
  cases q:H a with
  | none=>rfl
  | some u=>exact absurd (Nat.lt_of_lt_of_le (x.lt q) e) (Nat.lt_irrefl _)
theorem HOk.kept (x:HOk P w H h) (k:∀ b u,h.get? b=some u→h'.get? b=some u):HOk P w H h':=fun a o e =>
  (x a o e).stay (fun b u _ q=>k b u q) (fun _ q=>q) fun _ _ q=>q
theorem HOk.laid (x:HOk P w H h) (k:∀ b u,h.get? b=some u→h'.get? b=some u) (hp:h.objs.size≤a) (new:ObjOk P w (upd H a o) h' a o):HOk P w (upd H a o) h':=fun b u e=>by
  have hn:=x.fresh hp
  by_cases hb:b=a
  · subst hb; rw [upd_same] at e; cases e; exact new
  · rw [upd_ne hb] at e
    exact (x b u e).stay (fun c v _ q=>k c v q) (fun c q=>by rw [upd_ne (ne_of_none q hn)]; exact q) fun c xs q=>by rw [upd_ne (ne_of_none q hn)]; exact q
end
def Rd (H:Hp) (a:Addr) (u:HO):Prop:=H a=some u∨∃ o,H a=some (.frz o u)
theorem Rd.ok {P:Program} {w:World} {H:Hp} {h:Heap} {a:Addr} {u:HO} (r:Rd H a u) (x:HOk P w H h):ObjOk P w H h a u:=by
  rcases r with r | ⟨o,r⟩
  · exact x a u r
  · obtain ⟨_,q⟩:=x a _ r
    exact q
def Mut:Option HO→Prop
  | some (.lst _)=>True
  | some (.dK _)=>True
  | some (.dT _)=>True
  | some (.set _ _)=>True
  | some (.ins _ _ _)=>True
  | some (.ext _)=>True
  | _=>False
section
variable {P:Program} {w:World} {H:Hp} {h h':Heap} {x e:Addr} {o':HO}
theorem HOk.write (ok:HOk P w H h) (mu:Mut (H x)) (he:e=x∨H e=some (.own x)) (k:∀ b u,b≠e→h.get? b=some u→h'.get? b=some u) (heo:∃ u,h'.get? e=some u)
    (new:ObjOk P w (upd H x o') h' x o'):HOk P w (upd H x o') h':=fun b u q=>by
  have nown:∀ c y,H c=some (.own y)→c≠x:=fun c y r z=>by subst z; rw [r] at mu; exact mu
  have ntup:∀ c xs,H c=some (.tup xs)→c≠x:=fun c xs r z=>by subst z; rw [r] at mu; exact mu
  have nfrz:∀ c o u,H c=some (.frz o u)→c≠x:=fun c o u r z=>by subst z; rw [r] at mu; exact mu
  by_cases hb:b=x
  · subst hb; rw [upd_same] at q; cases q; exact new
  · rw [upd_ne hb] at q
    by_cases hbe:b=e
    · have q':H b=some (.own x):=by
        rcases he with z | z
        · exact absurd (hbe.trans z) hb
        · rw [hbe]; exact z
      rw [q] at q'; cases q'
      obtain ⟨v,hv⟩:=heo
      exact ⟨v,by rw [hbe]; exact hv⟩
    · refine (ok b u q).stay (fun c v hc r=>k c v ?_ r) (fun c r=>by rw [upd_ne (nown c b r)]; exact r) (fun c xs r=>by rw [upd_ne (ntup c xs r)]; exact r) fun c o u r=>by rw [upd_ne (nfrz c o u r)]; exact r
      rcases hc with rfl | hc
      · exact hbe
      · rintro rfl
        rcases he with z | z
        · exact nown c b hc z
        · rw [hc] at z; cases z; exact hb rfl
end
structure Un (fs ex:List Addr) (H H':Hp) (h h':Heap):Prop where
  keep:∀ b o,h.get? b=some o→H b=none→b∉fs→b∉ex→h'.get? b=some o
  slot:∀ b o,h.get? b=some o→H b=none→b∈fs→b∉ex→∃ sl,h'.get? b=some { o with slots:=sl }
  free:∀ b o,h.get? b=some o→H b=none→b∉ex→H' b=none
  there:∀ b o,h.get? b=some o→b∉ex→∃ o',h'.get? b=some o'
  tups:∀ b xs,H b=some (.tup xs)→H' b=some (.tup xs)
  frzs:∀ b o u,H b=some (.frz o u)→H' b=some (.frz o u)
  tbls:∀ b ps,H b=some (.tbl ps)→∃ more,H' b=some (.tbl (ps++more))
section
variable {fs fs' ex ex':List Addr} {H H1 H2:Hp} {h h1 h2 h':Heap} {a x e:Addr} {o:HO}
theorem Un.any (u:Un fs ex H H1 h h1) {b:Addr} {ob:Obj} (q:h.get? b=some ob) (n:H b=none) (hx:b∉ex):∃ sl,h1.get? b=some { ob with slots:=sl }:=by
  by_cases hb:b∈fs
  · exact u.slot b ob q n hb hx
  · exact ⟨ob.slots,u.keep b ob q n hb hx⟩
theorem Un.kept (k:∀ b u,h.get? b=some u→h'.get? b=some u):Un fs ex H H h h' :=
  ⟨fun b ob q _ _ _=>k b ob q,fun b ob q _ _ _=>⟨ob.slots,k b ob q⟩,fun _ _ _ n _=>n,fun b ob q _=>⟨ob,k b ob q⟩,fun _ _ q=>q,fun _ _ _ q=>q,fun _ ps q=>⟨#[],by rw [q]; simp⟩⟩
theorem Un.refl:Un fs ex H H h h:=Un.kept fun _ _ q=>q
theorem Un.laid (k:∀ b u,h.get? b=some u→h'.get? b=some u) (hp:h.objs.size≤a) (hn:H a=none):Un fs ex H (upd H a o) h h' where
  keep:=fun b u q _ _ _=>k b u q
  slot:=fun b u q _ _ _=>⟨u.slots,k b u q⟩
  free:=fun b u q n _=>by rw [upd_ne (Nat.ne_of_lt (Nat.lt_of_lt_of_le (Heap.lt_size q) hp))]; exact n
  there:=fun b u q _=>⟨u,k b u q⟩
  tups:=fun b xs q=>by rw [upd_ne (ne_of_none q hn)]; exact q
  frzs:=fun b u xs q=>by rw [upd_ne (ne_of_none q hn)]; exact q
  tbls:=fun b ps q=>⟨#[],by rw [upd_ne (ne_of_none q hn),q]; simp⟩
theorem Un.write (mu:Mut (H x)) (he:e=x∨H e=some (.own x)) (k:∀ b u,b≠e→h.get? b=some u→h'.get? b=some u) (heo:∃ u,h'.get? e=some u):Un fs ex H (upd H x o) h h':=by
  have hx:∀ b,H b=none→b≠x:=fun b n z=>by subst z; rw [n] at mu; exact mu
  have hb:∀ b,H b=none→b≠e:=fun b n z=>by
    subst z
    rcases he with r | r
    · exact hx b n r
    · rw [n] at r; cases r
  have hm:∀ b u,H b=some u→¬ Mut (some u)→b≠x:=fun b u q nm z=>by subst z; rw [q] at mu; exact nm mu
  refine ⟨fun b u q n _ _=>k b u (hb b n) q,fun b u q n _ _=>⟨u.slots,k b u (hb b n) q⟩,fun b u q n _=>by rw [upd_ne (hx b n)]; exact n,fun b u q _=>?_,
    fun b xs q=>by rw [upd_ne (hm b _ q fun z=>z)]; exact q,fun b u xs q=>by rw [upd_ne (hm b _ q fun z=>z)]; exact q,fun b ps q=>⟨#[],by rw [upd_ne (hm b _ q fun z=>z),q]; simp⟩⟩
  by_cases hbe:b=e
  · subst hbe; exact heo
  · exact ⟨u,k b u hbe q⟩
end
def trk (h:Heap) (H:Hp):List Addr:=(List.range h.objs.size).filter fun a=>(H a).isSome
def hidT (h:Heap) (H:Hp):Heap:=PySem.W.hideAll h (trk h H)
theorem hidT_size (h:Heap) (H:Hp):(hidT h H).objs.size=h.objs.size:=PySem.W.hideAll_size _ _
theorem hidT_get {h:Heap} {H:Hp} {b:Addr} {o:Obj} (e:h.get? b=some o) (n:H b=none):(hidT h H).get? b=some o :=
  PySem.W.hideAll_get _ e fun hm=>by
    have q:(H b).isSome=true:=(List.mem_filter.mp hm).2
    rw [n] at q; simp at q
theorem of_hidT {h:Heap} {H:Hp} {b:Addr} {o:Obj} (e:(hidT h H).get? b=some o):h.get? b=some o∧H b=none:=by
  have e':h.get? b=some o:=PySem.W.of_hideAll (trk h H) e
  refine ⟨e',?_⟩
  cases q:H b with
  | none=>rfl
  | some x =>
    have hm:b∈trk h H:=List.mem_filter.mpr ⟨List.mem_range.mpr (Heap.lt_size e'),by simp [q]⟩
    have z:(hidT h H).get? b=none:=PySem.W.hideAll_none (trk h H) hm
    rw [z] at e; cases e
def allNews (g h:Heap) (L:Addr):List (Addr×Obj):=(List.range h.objs.size).filterMap fun a=>if a=L∨(g.get? a).isSome=true then none else (h.get? a).map fun o=>(a,o)
theorem mem_allNews {g h:Heap} {L a:Addr} {o:Obj} (h1:a≠L) (h2:g.get? a=none) (h3:h.get? a=some o):(a,o)∈allNews g h L :=
  List.mem_filterMap.mpr ⟨a,List.mem_range.mpr (Heap.lt_size h3),by simp [h1,h2,h3]⟩
theorem of_mem_allNews {g h:Heap} {L:Addr} {p:Addr×Obj} (hp:p∈allNews g h L):p.1≠L∧g.get? p.1=none∧h.get? p.1=some p.2:=by
  obtain ⟨b,_,e⟩:=List.mem_filterMap.mp hp
  split at e
  · cases e
  · rename_i hn
    cases q:h.get? b with
    | none=>rw [q] at e; simp at e
    | some u =>
      rw [q] at e
      simp only [Option.map_some,Option.some.injEq] at e
      subst e
      refine ⟨fun z=>hn (.inl z),?_,q⟩
      show g.get? b=none
      cases r:g.get? b with
      | none=>rfl
      | some v=>exact (hn (.inr (by simp [r]))).elim
def rest (g h:Heap) (L d:Addr):List (Addr×Obj):=(allNews g h L).filter fun p=>decide (p.1≠d)
theorem news_all {g h:Heap} {L:Addr}:News g L h (allNews g h L):=fun p hp=>let ⟨a,b,c⟩:=of_mem_allNews hp; ⟨c,a,b⟩
end L2
namespace L2
open PySem PySem.Spec PyProof.Rows
structure Mod (K:PySem.W.Frag) (mg:Str→Option Value) (base:Heap):Prop where
  kin:K.In base
  glob:base.Ns mainGlobals mg
  blt:∃ mb,base.Ns builtinsNs mb∧∀ x:Str,x ≠ "__name__" → mb x=bootBuiltins x
  nolimit:base.NoLimit
structure Cx where
  prog:Program
  w:World
  K:PySem.W.Frag
  mg:Str→Option Value
  base:Heap
  A:Around
  N:List Str
  s₀:Shared
  H₀:Hp
  env:Env
  outer:List Env
  stack:List Env
  ex:List Addr
  fn:Str→Bool
  calm:Bool
  pn:List (Addr×Obj)
  xe:Value→Shared→Prop
def frs (l:List Env):List Addr:=l.filterMap (·.frame)
abbrev Cx.fs (X:Cx):List Addr:=frs X.outer
def Vis (sc:Scope) (x:Str):Prop:=sc.names.lookup x=some .local∨sc.names.lookup x=some .cell∨sc.names.lookup x=some .free
def Loc (sc:Scope) (x:Str):Prop:=sc.names.lookup x=some .local∨sc.names.lookup x=some .cell
def Look (env:Env) (h:Heap) (m:Str→Option Value) (x:Str) (u:Value):Prop :=
  (env.kindOf x=some .local∧m x=some u)∨((env.kindOf x=some .cell∨env.kindOf x=some .free)∧∃ c,env.cells.lookup x=some c∧h.IsCell c (some u))
structure Cx.Ok (X:Cx):Prop where
  mod:Mod X.K X.mg X.base
  kind:X.env.scope.kind=.function
  glob:X.env.globals=mainGlobals
  blt:X.env.builtins=builtinsNs
  above:X.s₀.heap.objs.size≤X.env.locals
  inj:∀ x y c,X.env.cells.lookup x=some c→X.env.cells.lookup y=some c→x=y
  has:∀ x,(X.env.kindOf x=some .cell∨X.env.kindOf x=some .free)→∃ c,X.env.cells.lookup x=some c
  cab:∀ x c,X.fn x=true→X.env.cells.lookup x=some c→X.s₀.heap.objs.size≤c
  hd:X.calm=true→X.A.handled=none
  frames:X.A.frames=some X.stack
  stk:X.stack=X.outer∨(X.stack=X.env::X.outer∧X.env.frame=some X.env.locals)
  exf:∀ b∈X.ex,b≠X.env.locals∧∀ x c,X.env.cells.lookup x=some c→c≠b
  bs:∀ b o,X.base.get? b=some o→X.s₀.heap.get? b=some o∧X.H₀ b=none
  bsz:X.base.objs.size≤X.s₀.heap.objs.size
  noex:∀ b o,X.base.get? b=some o→b∉X.ex
  exfs:∀ b∈X.ex,b∉X.fs
  funs:X.s₀.heap.FunFrames X.base X.outer
  frf:∀ b∈X.fs,X.H₀ b=none
structure Inv (X:Cx) (pins:List (Addr×Obj)) (σ:List (Option V)) (H:Hp) (s:Shared):Prop where
  ok:X.Ok
  os:s.os=X.s₀.os
  bare:AllBare s.gens
  base:Un X.fs X.ex X.H₀ H X.s₀.heap s.heap
  loc:∃ m,s.heap.Ns X.env.locals m∧∀ (i:Nat) (x:Str) (v:V),X.N[i]?=some x→σ[i]?=some (some v)→Vis X.env.scope x→∃ u,RelV v u∧Look X.env s.heap m x u
  cell:∀ x c,X.env.cells.lookup x=some c→∃ v,s.heap.IsCell c v
  free:H X.env.locals=none
  freeC:∀ x c,X.env.cells.lookup x=some c→H c=none
  pin:∀ p∈X.pn++pins,s.heap.get? p.1=some p.2∧H p.1=none∧p.1≠X.env.locals∧p.1∉X.fs∧∀ v,p.2.data≠.cell v
  hok:HOk X.prog X.w H s.heap
  len:σ.length=X.N.length
section
variable {X:Cx} {pins:List (Addr×Obj)} {σ:List (Option V)} {H H':Hp} {s:Shared} {h':Heap}
theorem Cx.Ok.nofr (ok:X.Ok) {b:Addr} {o:Obj} (e:X.base.get? b=some o):b∉X.fs:=fun hb=>by
  have:=(ok.funs.mem hb).1
  rw [e] at this; cases this
theorem Inv.bs (I:Inv X pins σ H s):∀ b o,X.base.get? b=some o→s.heap.get? b=some o∧H b=none:=fun b o e =>
  ⟨I.base.keep b o (I.ok.bs b o e).1 (I.ok.bs b o e).2 (I.ok.nofr e) (I.ok.noex b o e),I.base.free b o (I.ok.bs b o e).1 (I.ok.bs b o e).2 (I.ok.noex b o e)⟩
theorem Inv.bk (I:Inv X pins σ H s):∀ b o,X.base.get? b=some o→s.heap.get? b=some o:=fun b o e=>(I.bs b o e).1
theorem Inv.mod (I:Inv X pins σ H s):Mod X.K X.mg X.base:=I.ok.mod
theorem Inv.kIn (I:Inv X pins σ H s):X.K.In s.heap:=I.ok.mod.kin.keeps I.bk
theorem Inv.fr (I:Inv X pins σ H s):∃ m,Fr X.base X.env.locals s.heap m :=
  let ⟨m,hn,_⟩:=I.loc
  ⟨m,hn,I.bk,Nat.le_trans I.ok.bsz I.ok.above⟩
theorem Inv.lt (I:Inv X pins σ H s):X.env.locals<s.heap.objs.size:=let ⟨_,hn,_⟩:=I.loc; hn.lt
theorem Inv.sz (I:Inv X pins σ H s):X.s₀.heap.objs.size≤s.heap.objs.size:=Nat.le_trans I.ok.above (Nat.le_of_lt I.lt)
theorem Inv.nofs (I:Inv X pins σ H s) {a:Addr} (h:s.heap.objs.size≤a):a∉X.fs:=fun hb=>by
  obtain ⟨_,o,ho,_⟩:=I.ok.funs.mem hb
  exact absurd (Nat.lt_of_lt_of_le (Heap.lt_size ho) (Nat.le_trans I.sz h)) (Nat.lt_irrefl _)
theorem Inv.cne (I:Inv X pins σ H s):∀ x c,X.env.cells.lookup x=some c→c≠X.env.locals:=fun x c e z=>by
  obtain ⟨v,o,ho,hd⟩:=I.cell x c e
  obtain ⟨m,⟨o',es,ep,ho',hd',_⟩,_⟩:=I.loc
  rw [z,ho'] at ho; cases ho; rw [hd'] at hd; cases hd
theorem Inv.funs (I:Inv X pins σ H s):s.heap.FunFrames X.base X.outer:=by
  have all:∀ (l:List Env),(∀ b∈frs l,b∈X.fs)→X.s₀.heap.FunFrames X.base l→s.heap.FunFrames X.base l:=by
    intro l
    induction l with
    | nil=>intro _ _; trivial
    | cons env r ih =>
      intro hs hl
      obtain ⟨hk,⟨L,o,hf,hn,ho,hd⟩,hr⟩:=hl
      have hL:L∈X.fs:=hs L (by unfold frs; rw [List.filterMap_cons,hf]; exact List.mem_cons_self)
      obtain ⟨sl,e⟩:=I.base.slot L o ho (I.ok.frf L hL) hL fun z=>I.ok.exfs L z hL
      exact ⟨hk,⟨L,_,hf,hn,e,hd⟩,ih (fun b hb=>hs b (by unfold frs; rw [List.filterMap_cons,hf]; exact List.mem_cons_of_mem _ hb)) hr⟩
  exact all X.outer (fun _ hb=>hb) I.ok.funs
theorem Inv.stack (I:Inv X pins σ H s):s.heap.FunFrames X.base X.stack:=by
  rcases I.ok.stk with e | ⟨e,hf⟩
  · rw [e]; exact I.funs
  · rw [e]
    obtain ⟨m,hn,_⟩:=I.loc
    refine .cons (by rw [I.ok.kind]; decide) hf hn ?_ I.funs
    exact Heap.get?_none_of_le (Nat.le_trans I.ok.bsz I.ok.above)
theorem Inv.stkSub (I:Inv X pins σ H s):∀ b∈frs X.stack,b∈X.env.locals::X.fs:=fun b hb=>by
  rcases I.ok.stk with e | ⟨e,hf⟩
  · rw [e] at hb; exact List.mem_cons_of_mem _ hb
  · rw [e] at hb
    unfold frs at hb
    rw [List.filterMap_cons,hf] at hb
    exact hb
theorem Inv.stkFree (I:Inv X pins σ H s):∀ b∈frs X.stack,H b=none:=fun b hb=>by
  rcases List.mem_cons.mp (I.stkSub b hb) with e | hb
  · rw [e]; exact I.free
  · obtain ⟨_,o,ho,_⟩:=I.ok.funs.mem hb
    exact I.base.free b o ho (I.ok.frf b hb) fun z=>I.ok.exfs b z hb
theorem Inv.step {g':Array GenState} {t':Nat} {d':Drawn} {ch:List Addr} (I:Inv X pins σ H s)
    (hch:∀ b∈ch,(b∈X.ex∨X.s₀.heap.objs.size≤b)∧b≠X.env.locals∧(∀ x c,X.env.cells.lookup x=some c→c≠b)∧∀ p∈X.pn++pins,p.1≠b)
    (keep:∀ b o,b≠X.env.locals→b∉X.fs→b∉ch→s.heap.get? b=some o→H b=none→h'.get? b=some o)
    (slot:∀ b o,b≠X.env.locals→b∈X.fs→b∉ch→s.heap.get? b=some o→H b=none→∃ sl,h'.get? b=some { o with slots:=sl }) (free:∀ b o,b∉ch→s.heap.get? b=some o→H b=none→H' b=none)
    (there:∀ b o,b∉ch→s.heap.get? b=some o→∃ o',h'.get? b=some o')
    (tups:∀ b xs,H b=some (.tup xs)→H' b=some (.tup xs)) (frzs:∀ b o u,H b=some (.frz o u)→H' b=some (.frz o u)) (tbls:∀ b ps,H b=some (.tbl ps)→∃ more,H' b=some (.tbl (ps++more)))
    (ns:∀ m,s.heap.Ns X.env.locals m→h'.Ns X.env.locals m) (hok:HOk X.prog X.w H' h') (hg:AllBare g') :
    Inv X pins σ H' { s with heap:=h',gens:=g',drawn:=d',toks:=t' }:=by
  have neL:∀ b o,X.s₀.heap.get? b=some o→b≠X.env.locals:=fun b o e=>Nat.ne_of_lt (Nat.lt_of_lt_of_le (Heap.lt_size e) I.ok.above)
  have neC:∀ b o,X.s₀.heap.get? b=some o→b∉X.ex→b∉ch:=fun b o e hx hb=>by
    rcases (hch b hb).1 with z | z
    · exact hx z
    · exact absurd (Nat.lt_of_lt_of_le (Heap.lt_size e) z) (Nat.lt_irrefl _)
  have cellK:∀ x c,X.env.cells.lookup x=some c→∀ v,s.heap.IsCell c v→h'.IsCell c v:=fun x c e v ⟨o,ho,hd⟩=>by
    have nch:c∉ch:=fun z=>(hch c z).2.2.1 x c e rfl
    by_cases hc:c∈X.fs
    · obtain ⟨sl,q⟩:=slot c o (I.cne x c e) hc nch ho (I.freeC x c e)
      exact ⟨_,q,hd⟩
    · exact ⟨o,keep c o (I.cne x c e) hc nch ho (I.freeC x c e),hd⟩
  refine ⟨I.ok,I.os,hg,⟨fun b o e n hb hx=>?_,fun b o e n hb hx=>?_,fun b o e n hx=>?_,fun b o e hx=>?_,fun b xs e=>tups b xs (I.base.tups b xs e),fun b o xs e=>frzs b o xs (I.base.frzs b o xs e),fun b ps e=>?_⟩,?_,fun x c e=>?_,?_,fun x c e=>?_,fun p hp=>?_,hok,I.len⟩
  · exact keep b o (neL b o e) hb (neC b o e hx) (I.base.keep b o e n hb hx) (I.base.free b o e n hx)
  · obtain ⟨sl,e1⟩:=I.base.slot b o e n hb hx
    obtain ⟨sl',e2⟩:=slot b _ (neL b o e) hb (neC b o e hx) e1 (I.base.free b o e n hx)
    exact ⟨sl',e2⟩
  · obtain ⟨o',e1⟩:=I.base.there b o e hx
    exact free b o' (neC b o e hx) e1 (I.base.free b o e n hx)
  · obtain ⟨o',e1⟩:=I.base.there b o e hx
    exact there b o' (neC b o e hx) e1
  · obtain ⟨m1,e1⟩:=I.base.tbls b ps e
    obtain ⟨m2,e2⟩:=tbls b _ e1
    exact ⟨m1++m2,by rw [e2,Array.append_assoc]⟩
  · obtain ⟨m,hn,hl⟩:=I.loc
    refine ⟨m,ns m hn,fun i x v e1 e2 e3=>?_⟩
    obtain ⟨u,r,l⟩:=hl i x v e1 e2 e3
    refine ⟨u,r,?_⟩
    rcases l with l | ⟨k,c,e,z⟩
    · exact .inl l
    · exact .inr ⟨k,c,e,cellK x c e _ z⟩
  · obtain ⟨v,z⟩:=I.cell x c e
    exact ⟨v,cellK x c e v z⟩
  · obtain ⟨m,⟨o,_,_,ho,_⟩,_⟩:=I.loc
    exact free _ o (fun z=>(hch _ z).2.1 rfl) ho I.free
  · obtain ⟨v,o,ho,hd⟩:=I.cell x c e
    exact free c o (fun z=>(hch c z).2.2.1 x c e rfl) ho (I.freeC x c e)
  · obtain ⟨e,n,ne,nf,d⟩:=I.pin p hp
    have nch:p.1∉ch:=fun z=>(hch p.1 z).2.2.2 p hp rfl
    exact ⟨keep p.1 p.2 ne nf nch e n,free p.1 p.2 nch e n,ne,nf,d⟩
theorem Inv.un {t':Nat} (I:Inv X pins σ H s) (u:Un X.fs [] H H' s.heap h') (hok:HOk X.prog X.w H' h'):Inv X pins σ H' { s with heap:=h',toks:=t' }:=by
  obtain ⟨m,⟨o,es,ep,ho,r⟩,_⟩:=id I.loc
  obtain ⟨sl,hL⟩:=u.any ho I.free (by simp)
  exact I.step (g':=s.gens) (d':=s.drawn) (ch:=[]) (fun _ z=>nomatch z) (fun b o _ hb _ e n=>u.keep b o e n hb (by simp)) (fun b o _ hb _ e n=>u.slot b o e n hb (by simp)) (fun b o _ e n=>u.free b o e n (by simp)) (fun b o _ e=>u.there b o e (by simp)) u.tups u.frzs u.tbls (fun m' hm=>by
    obtain ⟨o',es',ep',ho',r'⟩:=hm
    rw [ho] at ho'; cases ho'
    exact ⟨_,es',ep',hL,r'⟩) hok I.bare
theorem Inv.call {g':Array GenState} {t':Nat} {d':Drawn} {ch:List Addr} (I:Inv X pins σ H s) (u:Un (frs X.stack) ch H H' s.heap h') (hok:HOk X.prog X.w H' h') (hg:AllBare g')
    (hch:∀ b∈ch,(b∈X.ex∨X.s₀.heap.objs.size≤b)∧b≠X.env.locals∧(∀ x c,X.env.cells.lookup x=some c→c≠b)∧∀ p∈X.pn++pins,p.1≠b) :
    Inv X pins σ H' { s with heap:=h',gens:=g',drawn:=d',toks:=t' }:=by
  obtain ⟨m,⟨o,es,ep,ho,r⟩,_⟩:=id I.loc
  obtain ⟨sl,hL⟩:=u.any ho I.free fun z=>(hch _ z).2.1 rfl
  exact I.step (ch:=ch) hch (fun b o hL hb hc e n=>u.keep b o e n (fun z=>(List.mem_cons.mp (I.stkSub b z)).elim hL hb) hc) (fun b o _ _ hc e n=>u.any e n hc) (fun b o hc e n=>u.free b o e n hc) (fun b o hc e=>u.there b o e hc) u.tups u.frzs u.tbls (fun m' hm=>by
    obtain ⟨o',es',ep',ho',r'⟩:=hm
    rw [ho] at ho'; cases ho'
    exact ⟨_,es',ep',hL,r'⟩) hok hg
theorem Inv.turned {t':Nat} {it:Addr} (I:Inv X pins σ H s) (k:∀ b o,b≠it→s.heap.get? b=some o→h'.get? b=some o) (hn:H it=none) (hL:it≠X.env.locals)
    (h1:it∈X.ex∨X.s₀.heap.objs.size≤it) (h2:∀ x c,X.env.cells.lookup x=some c→c≠it) (h3:∀ p∈X.pn++pins,p.1≠it):Inv X pins σ H { s with heap:=h',toks:=t' }:=by
  have nit:∀ b u,H b=some u→b≠it:=fun b u e z=>by rw [z,hn] at e; cases e
  refine I.step (g':=s.gens) (d':=s.drawn) (ch:=[it]) (fun b hb=>?_) (fun b o _ _ hc e _=>k b o (fun z=>hc (by simp [z])) e) (fun b o _ _ hc e _=>⟨o.slots,k b o (fun z=>hc (by simp [z])) e⟩) (fun _ _ _ _ n=>n)
    (fun b o hc e=>⟨o,k b o (fun z=>hc (by simp [z])) e⟩) (fun _ _ e=>e) (fun _ _ _ e=>e) (fun b ps e=>⟨#[],by rw [e]; simp⟩) (fun m hm=>?_) (fun b u e=>?_) I.bare
  · have e:b=it:=by simpa using hb
    subst e
    exact ⟨h1,hL,h2,h3⟩
  · obtain ⟨o,es,ep,ho,r⟩:=hm
    exact ⟨o,es,ep,k _ o (Ne.symm hL) ho,r⟩
  · refine (I.hok b u e).stay (fun c v hc q=>k c v ?_ q) (fun _ q=>q) fun _ _ q=>q
    rcases hc with z | z
    · rw [z]; exact nit b u e
    · exact nit c _ z
theorem Inv.tok (I:Inv X pins σ H s) (t:Nat):Inv X pins σ H { s with toks:=t }:=I.un (h':=s.heap) (t':=t) Un.refl I.hok
theorem Inv.kept {t':Nat} (I:Inv X pins σ H s) (k:∀ b u,s.heap.get? b=some u→h'.get? b=some u):Inv X pins σ H { s with heap:=h',toks:=t' }:=I.un (Un.kept k) (I.hok.kept k)
theorem Inv.laid {a:Addr} {o:HO} {t':Nat} (I:Inv X pins σ H s) (k:∀ b u,s.heap.get? b=some u→h'.get? b=some u) (hp:s.heap.objs.size≤a) (new:ObjOk X.prog X.w (upd H a o) h' a o) :
    Inv X pins σ (upd H a o) { s with heap:=h',toks:=t' }:=I.un (Un.laid k hp (I.hok.fresh hp)) (I.hok.laid k hp new)
theorem Inv.write {x e:Addr} {o:HO} {t':Nat} (I:Inv X pins σ H s) (mu:Mut (H x)) (he:e=x∨H e=some (.own x)) (k:∀ b u,b≠e→s.heap.get? b=some u→h'.get? b=some u) (heo:∃ u,h'.get? e=some u)
    (new:ObjOk X.prog X.w (upd H x o) h' x o):Inv X pins σ (upd H x o) { s with heap:=h',toks:=t' }:=I.un (Un.write mu he k heo) (I.hok.write mu he k heo new)
theorem Inv.weak {σ':List (Option V)} (I:Inv X pins σ H s) (hl:σ'.length=σ.length) (w:∀ (i:Nat) v,σ'[i]?=some (some v)→σ[i]?=some (some v)):Inv X pins σ' H s :=
  ⟨I.ok,I.os,I.bare,I.base,let ⟨m,hn,hl'⟩:=I.loc; ⟨m,hn,fun i x v e1 e2 e3=>hl' i x v e1 (w i v e2) e3⟩,I.cell,I.free,I.freeC,I.pin,I.hok,hl.trans I.len⟩
theorem Inv.pins_of {pins':List (Addr×Obj)} (I:Inv X pins σ H s) (h:∀ p∈pins',s.heap.get? p.1=some p.2∧H p.1=none∧p.1≠X.env.locals∧p.1∉X.fs∧∀ v,p.2.data≠.cell v):Inv X pins' σ H s :=
  ⟨I.ok,I.os,I.bare,I.base,I.loc,I.cell,I.free,I.freeC,fun p hp=>(List.mem_append.mp hp).elim (fun z=>I.pin p (List.mem_append_left _ z)) (h p),I.hok,I.len⟩
theorem nodup_ix {N:List Str} (hN:N.Nodup) {i j:Nat} {x:Str} (a:N[i]?=some x) (b:N[j]?=some x):i=j:=by
  obtain ⟨h1,e1⟩:=List.getElem?_eq_some_iff.mp a
  obtain ⟨h2,e2⟩:=List.getElem?_eq_some_iff.mp b
  exact (List.getElem_inj hN).mp (e1.trans e2.symm)
theorem store_ok2 {M:Model} {A:Around} {E:Value→Shared→Prop} {i:Nat} {x:Str} {v:V} {u:Value} {Q:Unit→Shared→Prop} (I:Inv X pins σ H s) (hN:X.N.Nodup) (hi:X.N[i]?=some x) (hx:Loc X.env.scope x) (r:RelV v u)
    (h:∀ s',Inv X pins (σ.set i (some v)) H s'→(∃ a,Heap.SameBut a s.heap s'.heap∧(a=X.env.locals∨X.env.cells.lookup x=some a))→Q () s') (hf:X.fn x=true∨X.env.scope.names.lookup x=some .local:=by first | exact .inl rfl | exact .inr rfl | assumption):wpAny M A (storeName X.env x u) Q E s:=by
  obtain ⟨m,hn,hl⟩:=id I.loc
  have hcls:(X.env.scope.kind==.class || (X.env.scope.kind==.module&&X.env.locals != X.env.globals))=false:=by rw [I.ok.kind]; rfl
  have hiσ:i < σ.length:=by rw [I.len]; exact (List.getElem?_eq_some_iff.mp hi).1
  have cne:=I.cne
  have tracked:∀ {a:Addr} {h':Heap},(∃ o,s.heap.get? a=some o∧H a=none)→Heap.SameBut a s.heap h'→HOk X.prog X.w H h':=fun {a h'} ha hs b ob e=>by
    obtain ⟨_,_,hfree⟩:=ha
    refine (I.hok b ob e).stay (fun c w' hc q=>(hs.2 c ?_).trans q) (fun _ q=>q) fun _ _ q=>q
    rintro rfl
    rcases hc with rfl | hc
    · rw [hfree] at e; cases e
    · rw [hfree] at hc; cases hc
  rcases hx with hk | hk
  · refine wpAny_storeName_local hk hn (fun h' hn' hs=>?_) hcls
    obtain ⟨oL,_,_,hoL,_⟩:=id hn
    refine h _ ⟨I.ok,I.os,I.bare,⟨fun b o e n hb hx=>?_,fun b o e n hb hx=>?_,I.base.free,fun b o e hx=>?_,I.base.tups,I.base.frzs,I.base.tbls⟩,⟨_,hn',fun j y v' e1 e2 e3=>?_⟩,fun y c e=>?_,I.free,I.freeC,fun p hp=>?_,tracked ⟨oL,hoL,I.free⟩ hs,by simpa using I.len⟩ ⟨_,hs,.inl rfl⟩
    · exact (hs.2 b (Nat.ne_of_lt (Nat.lt_of_lt_of_le (Heap.lt_size e) I.ok.above))).trans (I.base.keep b o e n hb hx)
    · obtain ⟨sl,e1⟩:=I.base.slot b o e n hb hx
      exact ⟨sl,(hs.2 b (Nat.ne_of_lt (Nat.lt_of_lt_of_le (Heap.lt_size e) I.ok.above))).trans e1⟩
    · obtain ⟨o',e1⟩:=I.base.there b o e hx
      exact ⟨o',(hs.2 b (Nat.ne_of_lt (Nat.lt_of_lt_of_le (Heap.lt_size e) I.ok.above))).trans e1⟩
    · by_cases hj:j=i
      · subst hj
        rw [hi] at e1; cases e1
        rw [List.getElem?_set_self hiσ] at e2
        cases e2
        exact ⟨u,r,.inl ⟨hk,by simp⟩⟩
      · rw [List.getElem?_set_ne (Ne.symm hj)] at e2
        obtain ⟨u',r',q⟩:=hl j y v' e1 e2 e3
        refine ⟨u',r',?_⟩
        rcases q with ⟨k,e⟩ | ⟨k,c,e,z⟩
        · refine .inl ⟨k,?_⟩
          have:y≠x:=fun e=>hj (nodup_ix hN e1 (e ▸ hi))
          simp [this,e]
        · exact .inr ⟨k,c,e,z.sameBut hs (cne y c e)⟩
    · obtain ⟨w',z⟩:=I.cell y c e
      exact ⟨w',z.sameBut hs (cne y c e)⟩
    · obtain ⟨e,n,ne,nf,d⟩:=I.pin p hp
      exact ⟨(hs.2 p.1 ne).trans e,n,ne,nf,d⟩
  · have hfn:X.fn x=true:=by
      rcases hf with z | z
      · exact z
      · rw [z] at hk; cases hk
    obtain ⟨c,hc⟩:=I.ok.has x (.inl hk)
    obtain ⟨w',z⟩:=I.cell x c hc
    refine wpAny_storeName_cell I.ok.kind hk hc z (fun h' hc' hs=>?_)
    obtain ⟨oc,hoc,hocd⟩:=id z
    refine h { s with heap:=h' } ⟨I.ok,I.os,I.bare,⟨fun b o e n hb hx=>?_,fun b o e n hb hx=>?_,I.base.free,fun b o e hx=>?_,I.base.tups,I.base.frzs,I.base.tbls⟩,⟨m,hn.sameBut hs (Ne.symm (cne x c hc)),fun j y v' e1 e2 e3=>?_⟩,fun y c' e=>?_,I.free,I.freeC,fun p hp=>?_,tracked ⟨oc,hoc,I.freeC x c hc⟩ hs,by simpa using I.len⟩ ⟨c,hs,.inr hc⟩
    · exact (hs.2 b (Nat.ne_of_lt (Nat.lt_of_lt_of_le (Heap.lt_size e) (I.ok.cab x c hfn hc)))).trans (I.base.keep b o e n hb hx)
    · obtain ⟨sl,e1⟩:=I.base.slot b o e n hb hx
      exact ⟨sl,(hs.2 b (Nat.ne_of_lt (Nat.lt_of_lt_of_le (Heap.lt_size e) (I.ok.cab x c hfn hc)))).trans e1⟩
    · obtain ⟨o',e1⟩:=I.base.there b o e hx
      exact ⟨o',(hs.2 b (Nat.ne_of_lt (Nat.lt_of_lt_of_le (Heap.lt_size e) (I.ok.cab x c hfn hc)))).trans e1⟩
    · by_cases hj:j=i
      · subst hj
        rw [hi] at e1; cases e1
        rw [List.getElem?_set_self hiσ] at e2
        cases e2
        exact ⟨u,r,.inr ⟨.inl hk,c,hc,hc'⟩⟩
      · rw [List.getElem?_set_ne (Ne.symm hj)] at e2
        obtain ⟨u',r',q⟩:=hl j y v' e1 e2 e3
        refine ⟨u',r',?_⟩
        rcases q with q | ⟨k,c',e,z'⟩
        · exact .inl q
        · refine .inr ⟨k,c',e,z'.sameBut hs ?_⟩
          rintro rfl
          exact hj (nodup_ix hN e1 (I.ok.inj _ _ _ e hc ▸ hi))
    · by_cases hcc:c'=c
      · subst hcc; exact ⟨_,hc'⟩
      · obtain ⟨w2,z2⟩:=I.cell y c' e
        exact ⟨w2,z2.sameBut hs hcc⟩
    · obtain ⟨e,n,ne,nf,d⟩:=I.pin p hp
      refine ⟨(hs.2 p.1 ?_).trans e,n,ne,nf,d⟩
      intro q
      rw [q,hoc] at e
      have q':oc=p.2:=Option.some.inj e
      exact d w' (by rw [← q']; exact hocd)
theorem store_ok {M:Model} {A:Around} {E:Value→Shared→Prop} {i:Nat} {x:Str} {v:V} {u:Value} {Q:Unit→Shared→Prop} (I:Inv X pins σ H s) (hN:X.N.Nodup) (hi:X.N[i]?=some x) (hx:Loc X.env.scope x) (r:RelV v u)
    (h:∀ s',Inv X pins (σ.set i (some v)) H s'→Q () s') (hf:X.fn x=true∨X.env.scope.names.lookup x=some .local:=by first | exact .inl rfl | exact .inr rfl | assumption):wpAny M A (storeName X.env x u) Q E s :=
  store_ok2 I hN hi hx r (fun s' I' _=>h s' I') hf
theorem Inv.call' {s':Shared} {ch:List Addr} (I:Inv X pins σ H s) (ho:s'.os=s.os) (u:Un (frs X.stack) ch H H' s.heap s'.heap) (hok:HOk X.prog X.w H' s'.heap) (hg:AllBare s'.gens)
    (hch:∀ b∈ch,(b∈X.ex∨X.s₀.heap.objs.size≤b)∧b≠X.env.locals∧(∀ x c,X.env.cells.lookup x=some c→c≠b)∧∀ p∈X.pn++pins,p.1≠b):Inv X pins σ H' s':=by
  obtain ⟨h',g',d',t',o'⟩:=s'
  have e:o'=s.os:=ho
  subst e
  exact I.call (g':=g') (t':=t') (d':=d') u hok hg hch
end
abbrev XK:=Value→Option Addr→Hp→Prop
abbrev St:=List (Option V)
abbrev VK:=V→Hp→Prop
abbrev TE:=St→Hp→VK→Prop
abbrev TT:=St→Hp→(Bool→Hp→Prop)→Prop
abbrev TA:=St→Hp→(List V→Hp→Prop)→Prop
structure Ends where
  nx:St→Hp→Prop
  rt:VK
  bk:St→Hp→Prop:=fun _ _=>False
  ct:St→Hp→Prop:=fun _ _=>False
abbrev TS:=Ends→St→Hp→Prop
def EP (X:Cx) (pins:List (Addr×Obj)) (σ:St) (Q:VK) (u:Value) (s':Shared):Prop:=∃ v H',Inv X pins σ H' s'∧RelV v u∧Q v H'
def TP (X:Cx) (pins:List (Addr×Obj)) (σ:St) (Q:Bool→Hp→Prop) (b:Bool) (s':Shared):Prop:=∃ H',Inv X pins σ H' s'∧Q b H'
def AP (X:Cx) (pins:List (Addr×Obj)) (σ:St) (Q:List V→Hp→Prop) (us:List Value) (s':Shared):Prop:=∃ vs H',Inv X pins σ H' s'∧Vals vs us∧Q vs H'
def SP (X:Cx) (pins:List (Addr×Obj)) (D:Ends) (f:Flow) (s':Shared):Prop :=
  match f with
  | .next=>∃ σ' H',Inv X pins σ' H' s'∧D.nx σ' H'
  | .brk=>∃ σ' H',Inv X pins σ' H' s'∧D.bk σ' H'
  | .cont=>∃ σ' H',Inv X pins σ' H' s'∧D.ct σ' H'
  | .ret u=>∃ v σ' H',Inv X pins σ' H' s'∧RelV v u∧D.rt v H'
def PE (X:Cx) (e:Expr) (t:TE):Prop :=
  ∀ (pins:List (Addr×Obj)) (s:Shared) (σ:St) (H:Hp) (Q:VK),Inv X pins σ H s→t σ H Q→wpAny (model X.prog X.w) X.A (eval e X.env) (EP X pins σ Q) X.xe s
def PT (X:Cx) (e:Expr) (t:TT):Prop :=
  ∀ (pins:List (Addr×Obj)) (s:Shared) (σ:St) (H:Hp) (Q:Bool→Hp→Prop),Inv X pins σ H s→t σ H Q→wpAny (model X.prog X.w) X.A (isTrue e X.env (eval e X.env)) (TP X pins σ Q) X.xe s
def PW (X:Cx) (e:Expr) (t:TT):Prop :=
  ∀ (whole:Sem Value) (pins:List (Addr×Obj)) (s:Shared) (σ:St) (H:Hp) (Q:Bool→Hp→Prop),Inv X pins σ H s→t σ H Q→wpAny (model X.prog X.w) X.A (isTrue e X.env whole) (TP X pins σ Q) X.xe s
theorem PW.pt {X:Cx} {e:Expr} {t:TT} (h:PW X e t):PT X e t:=h _
def PA (X:Cx) (es:List Expr) (t:TA):Prop :=
  ∀ (pos:Pos) (pins:List (Addr×Obj)) (s:Shared) (σ:St) (H:Hp) (Q:List V→Hp→Prop),Inv X pins σ H s→t σ H Q→wpAny (model X.prog X.w) X.A (spliced (backTo pos (starEach es X.env))) (AP X pins σ Q) X.xe s
def PS (X:Cx) (st:Stmt) (t:TS):Prop :=
  ∀ (pins:List (Addr×Obj)) (s:Shared) (σ:St) (H:Hp) (D:Ends),Inv X pins σ H s→t D σ H→wpAny (model X.prog X.w) X.A (exec st X.env) (SP X pins D) X.xe s
def PSs (X:Cx) (st:List Stmt) (t:TS):Prop :=
  ∀ (pins:List (Addr×Obj)) (s:Shared) (σ:St) (H:Hp) (D:Ends),Inv X pins σ H s→t D σ H→wpAny (model X.prog X.w) X.A (execs st X.env) (SP X pins D) X.xe s
theorem thn {α:Type} {t:Sem α} {Q Q':α→Shared→Prop} {M:Model} {A:Around} {E:Value→Shared→Prop} {s:Shared} (h:wpAny M A t Q E s) (hQ:∀ a s,Q a s→Q' a s):wpAny M A t Q' E s:=wpAny_mono h hQ fun _ _ x=>x
end L2
namespace L2
open PySem PySem.Spec PyProof.Rows
section
variable {X:Cx}
def tVar (i:Nat):TE:=fun σ H Q=>∃ v,σ[i]?=some (some v)∧Q v H
def tC (v:V):TE:=fun _ H Q=>Q v H
theorem pe_var {i:Nat} {x:Str} {pos:Pos} (hN:X.N[i]?=some x) (hv:Vis X.env.scope x) (hd:(x==("__debug__" : Str))=false:=by decide) (hcd:(x==("__classdict__" : Str))=false:=by decide):PE X (.Name x pos) (tVar i):=by
  intro pins s σ H Q I h
  obtain ⟨v,e,h⟩:=h
  obtain ⟨m,hn,hl⟩:=I.loc
  obtain ⟨u,r,l⟩:=hl i x v hN e hv
  have fin:EP X pins σ Q u s:=⟨v,H,I,r,h⟩
  rcases l with ⟨hk,hm⟩ | ⟨hk,c,hc,hcell⟩
  · exact wpAny_Name (wpAny_loadName_local I.ok.kind hk hn hm fin) hd
  · rcases hk with hk | hk
    · exact wpAny_Name (wpAny_loadName_cell I.ok.kind hk hc hcell fin) hd
    · exact wpAny_Name (wpAny_loadName_free I.ok.kind hk hc hcell fin hcd) hd
theorem pe_int {i j pos}:PE X (.Constant (.int i) j pos) (tC (.int i)):=fun _ _ _ H _ I h=>wpAny_Constant_int ⟨.int i,H,I.tok _,⟨_,rfl⟩,h⟩
theorem pe_bl {b j pos}:PE X (.Constant (.bool b) j pos) (tC (.bl b)):=fun _ _ _ H _ I h=>Constant_bool ⟨.bl b,H,I,rfl,h⟩
def Gl (X:Cx) (x:Str):Prop:=X.env.kindOf x=some .globalImplicit
theorem ld_glob {E:Value→Shared→Prop} {pins:List (Addr×Obj)} {s:Shared} {σ:St} {H:Hp} {x:Str} {u:Value} {pos:Pos} {Q:Value→Shared→Prop} (I:Inv X pins σ H s) (hg:Gl X x) (hm:X.mg x=some u) (h:Q u s)
    (hd:(x==("__debug__" : Str))=false:=by decide):wpAny (model X.prog X.w) X.A (eval (.Name x pos) X.env) Q E s :=
  Calls.Name_function_global I.ok.kind hg (Calls.loadGlobal_global (by rw [I.ok.glob]; exact I.mod.glob.keeps I.bk) hm h) hd
theorem ld_blt {E:Value→Shared→Prop} {pins:List (Addr×Obj)} {s:Shared} {σ:St} {H:Hp} {x:Str} {u:Value} {pos:Pos} {Q:Value→Shared→Prop} (I:Inv X pins σ H s) (hg:Gl X x) (hm:X.mg x=none) (hv:bootBuiltins x=some u) (h:Q u s)
    (hn:x ≠ "__name__" := by decide) (hd:(x==("__debug__" : Str))=false:=by decide):wpAny (model X.prog X.w) X.A (eval (.Name x pos) X.env) Q E s:=by
  obtain ⟨mb,h1,h2⟩:=I.mod.blt
  exact Calls.Name_function_global I.ok.kind hg (Calls.loadGlobal_builtin (by rw [I.ok.glob]; exact I.mod.glob.keeps I.bk) hm (by rw [I.ok.blt]; exact h1.keeps I.bk) ((h2 x hn).trans hv) h) hd
theorem pe_bltn {x:Str} {v:V} {u:Value} {pos:Pos} (hg:Gl X x) (hm:X.mg x=none) (hv:bootBuiltins x=some u) (r:RelV v u) (hn:x ≠ "__name__" := by decide) (hd:(x==("__debug__" : Str))=false:=by decide):PE X (.Name x pos) (tC v) :=
  fun _ _ _ H _ I h=>ld_blt I hg hm hv ⟨v,H,I,r,h⟩ hn hd
variable {a b:Expr} {ta tb:TE} {pos:Pos}
def PC (X:Cx) (op:CmpOp) (a b:Expr) (t:TE):Prop :=
  ∀ (pins:List (Addr×Obj)) (s:Shared) (σ:St) (H:Hp) (Q:VK),Inv X pins σ H s→t σ H Q →
    wpAny (model X.prog X.w) X.A (eval a X.env) (fun v s₁=>wpAny (model X.prog X.w) X.A (eval b X.env) (fun u s₂=>wpAny (model X.prog X.w) X.A (compareOp op v u) (EP X pins σ Q) X.xe s₂) X.xe s₁) X.xe s
def tB (t:TE):TT:=fun σ H Q=>t σ H fun x H1=>∃ c,x=.bl c∧Q c H1
theorem pt_cmp {op:CmpOp} {t:TE} (h:PC X op a b t) (h1:behindInMarks op b=false:=by first | exact nobehind _ (by decide) (by decide) | rfl):PT X (.Compare a [op] [b] pos) (tB t):=by
  intro pins s σ H Q I hw
  refine wpAny_isTrue_Compare1 (thn (h pins s σ H _ I hw) fun v s1 h1=>thn h1 fun u s2 h2=>thn h2 fun c s3 ⟨x,H1,I1,r1,q1⟩=>?_) h1
  obtain ⟨d,rfl,q⟩:=q1
  cases r1
  exact wpAny_truthy_bool ⟨H1,I1,q⟩
variable {tA tB':TT} {rest:List Expr}
def tOr (t u:TT):TT:=fun σ H Q=>t σ H fun c H1=>if c=true then Q true H1 else u σ H1 Q
def tNot (t:TT):TT:=fun σ H Q=>t σ H fun c H1=>Q (!c) H1
theorem pw_or1 (ha:PT X a tA):PW X (.BoolOp .Or [a] pos) tA:=by
  intro wh pins s σ H Q I h
  refine isTrue_or (thn (ha pins s σ H Q I h) fun c s1 e=>?_)
  cases c with
  | false=>exact isTrue_or_nil e
  | true=>exact e
theorem pw_or (ha:PT X a tA) (hb:PW X (.BoolOp .Or (b::rest) pos) tB'):PW X (.BoolOp .Or (a::b::rest) pos) (tOr tA tB'):=by
  intro wh pins s σ H Q I h
  refine isTrue_or (thn (ha pins s σ H _ I h) fun c s1 ⟨H1,I1,q1⟩=>?_)
  cases c with
  | true=>exact ⟨H1,I1,q1⟩
  | false=>exact hb wh pins s1 σ H1 Q I1 q1
theorem pt_not (ha:PT X a tA):PT X (.UnaryOp .Not a pos) (tNot tA):=by
  intro pins s σ H Q I h
  exact isTrue_not (ha pins s σ H (fun c H1=>Q (!c) H1) I h)
def tAndV (ta tb:TE):TE:=fun σ H Q=>ta σ H fun x H1=>∃ c,x=.bl c∧if c=true then tb σ H1 Q else Q (.bl false) H1
def tOrV (ta tb:TE):TE:=fun σ H Q=>ta σ H fun x H1=>∃ c,x=.bl c∧if c=true then Q (.bl true) H1 else tb σ H1 Q
def tNotV (ta:TE):TE:=fun σ H Q=>ta σ H fun x H1=>∃ c,x=.bl c∧Q (.bl (!c)) H1
theorem pe_one {op} {t:TE} (h:PE X a t):PE X (.BoolOp op [a] pos) t:=fun pins s σ H Q I hw=>BoolOp_one (h pins s σ H Q I hw)
theorem pe_and (ha:PE X a ta) (hb:PE X (.BoolOp .And (b::rest) pos) tb):PE X (.BoolOp .And (a::b::rest) pos) (tAndV ta tb):=by
  intro pins s σ H Q I h
  refine BoolOp_and (thn (ha pins s σ H _ I h) fun v s1 ⟨x,H1,I1,r1,q1⟩=>?_)
  obtain ⟨c,rfl,q1⟩:=q1
  cases r1
  refine wpAny_truthy_bool ?_
  cases c with
  | true=>exact hb pins s1 σ H1 Q I1 q1
  | false=>exact ⟨.bl false,H1,I1,rfl,q1⟩
theorem pe_or (ha:PE X a ta) (hb:PE X (.BoolOp .Or (b::rest) pos) tb):PE X (.BoolOp .Or (a::b::rest) pos) (tOrV ta tb):=by
  intro pins s σ H Q I h
  refine BoolOp_or (thn (ha pins s σ H _ I h) fun v s1 ⟨x,H1,I1,r1,q1⟩=>?_)
  obtain ⟨c,rfl,q1⟩:=q1
  cases r1
  refine wpAny_truthy_bool ?_
  cases c with
  | false=>exact hb pins s1 σ H1 Q I1 q1
  | true=>exact ⟨.bl true,H1,I1,rfl,q1⟩
theorem pe_not (ha:PE X a ta):PE X (.UnaryOp .Not a pos) (tNotV ta):=by
  intro pins s σ H Q I h
  refine UnaryOp_ (thn (ha pins s σ H _ I h) fun v s1 ⟨x,H1,I1,r1,q1⟩=>?_)
  obtain ⟨c,rfl,q1⟩:=q1
  cases r1
  exact not_of (wpAny_truthy_bool ⟨.bl (!c),H1,I1,rfl,q1⟩)
def tIf (t:TT) (ta tb:TE):TE:=fun σ H Q=>t σ H fun c H1=>if c=true then ta σ H1 Q else tb σ H1 Q
theorem pe_ifExp {c:Expr} (hc:PT X c tA) (ha:PE X a ta) (hb:PE X b tb):PE X (.IfExp c a b pos) (tIf tA ta tb):=by
  intro pins s σ H Q I h
  refine wpAny_IfExp (thn (hc pins s σ H _ I h) fun d s1 ⟨H1,I1,q1⟩=>?_)
  cases d with
  | true=>exact ha pins s1 σ H1 Q I1 q1
  | false=>exact hb pins s1 σ H1 Q I1 q1
end
end L2
namespace L2
open PySem PySem.Spec PyProof.Rows
def SqL (K:PySem.W.Frag) (H:Hp) (a:Addr) (xs:List V):Prop :=
  Rd H a (.lst xs) ∨
    ∃ (o:Obj) (its:Array Value) (n:Nat),K.lookup a=some o∧o.cls=.type "list" ∧ o.dict=none∧o.data=.seq its n∧its.size≤sizeLine∧Vals xs its.toList
def SqT (K:PySem.W.Frag) (H:Hp) (a:Addr) (xs:List V):Prop :=
  Rd H a (.tup xs) ∨
    ∃ (o:Obj) (its:Array Value) (n:Nat),K.lookup a=some o∧o.cls=.type "tuple" ∧ o.data=.seq its n∧its.size≤sizeLine∧Vals xs its.toList
def absV:Value→Option V
  | .none=>some .non
  | .bool b=>some (.bl b)
  | .int i _=>some (.int i)
  | .str x _=>some (.str x)
  | .bytes b _=>some (.byt b)
  | .float b _=>some (.flt b)
  | .ref a=>some (.ref a)
  | .type n=>some (.ty n)
  | _=>none
theorem RelV.abs {x:V} {u:Value} (r:RelV x u):absV u=some x:=by
  cases x with
  | non=>cases r; rfl
  | bl _=>cases r; rfl
  | int _=>obtain ⟨t,rfl⟩:=r; rfl
  | str _=>obtain ⟨t,rfl⟩:=r; rfl
  | byt _=>obtain ⟨t,rfl⟩:=r; rfl
  | flt _=>obtain ⟨t,rfl⟩:=r; rfl
  | ref _=>cases r; rfl
  | ty _=>cases r; rfl
theorem RelV.inj {x y:V} {u:Value} (r:RelV x u) (q:RelV y u):x=y:=Option.some.inj (r.abs.symm.trans q.abs)
theorem Vals.inj:∀ {xs ys:List V} {us:List Value},Vals xs us→Vals ys us→xs=ys
  | _,_,_,.nil,.nil=>rfl
  | _,_,_,.cons r t,.cons r' t'=>by rw [r.inj r',Vals.inj t t']
section
variable {X:Cx} {pins:List (Addr×Obj)} {σ:St} {H:Hp} {s:Shared} {a:Addr} {xs ys:List V}
theorem SqL.of {K:PySem.W.Frag} (h:H a=some (.lst xs)):SqL K H a xs:=.inl (.inl h)
theorem Inv.list (I:Inv X pins σ H s) (h:SqL X.K H a xs):∃ its:List Value,Vals xs its∧PlainL s.heap a its.toArray∧xs.length≤sizeLine:=by
  rcases h with h | ⟨o,its,n,hk,hc,hd,hs,hz,r⟩
  · obtain ⟨z,its,n,r,e⟩:=h.ok I.hok
    exact ⟨its,r,⟨_,n,e,rfl,rfl,rfl⟩,z⟩
  · refine ⟨its.toList,r,⟨o,n,I.kIn a o hk,hc,hd,by simpa using hs⟩,?_⟩
    have e:=r.length
    simp only [Array.length_toList] at e
    omega
theorem Inv.tuple (I:Inv X pins σ H s) (h:SqT X.K H a xs):∃ its:List Value,Vals xs its∧IsTup s.heap a its.toArray∧xs.length≤sizeLine:=by
  rcases h with h | ⟨o,its,n,hk,hc,hs,hz,r⟩
  · obtain ⟨z,its,r,p⟩:=h.ok I.hok
    exact ⟨its,r,p,z⟩
  · refine ⟨its.toList,r,⟨o,I.kIn a o hk,hc,n,by simpa using hs⟩,?_⟩
    have e:=r.length
    simp only [Array.length_toList] at e
    omega
theorem Inv.list_inj (I:Inv X pins σ H s) (h:SqL X.K H a xs) (h':SqL X.K H a ys):xs=ys:=by
  obtain ⟨its,r,⟨o,n,e,_,_,d⟩,_⟩:=I.list h
  obtain ⟨its',r',⟨o',n',e',_,_,d'⟩,_⟩:=I.list h'
  rw [e] at e'; cases e'
  rw [d] at d'
  injection d' with d1 _
  have:its=its':=by simpa using congrArg Array.toList d1
  subst this
  exact r.inj r'
end
abbrev Cx.wish (X:Cx) (E:Value→Shared→Prop):Cx:={ X with xe:=E }
abbrev Cx.nox (X:Cx):Cx:=X.wish fun _ _=>False
theorem Cx.Ok.wish {X:Cx} (ok:X.Ok) (E:Value→Shared→Prop):(X.wish E).Ok :=
  ⟨ok.mod,ok.kind,ok.glob,ok.blt,ok.above,ok.inj,ok.has,ok.cab,ok.hd,ok.frames,ok.stk,ok.exf,ok.bs,ok.bsz,ok.noex,ok.exfs,ok.funs,ok.frf⟩
theorem Cx.Ok.unwish {X:Cx} {E:Value→Shared→Prop} (ok:(X.wish E).Ok):X.Ok :=
  ⟨ok.mod,ok.kind,ok.glob,ok.blt,ok.above,ok.inj,ok.has,ok.cab,ok.hd,ok.frames,ok.stk,ok.exf,ok.bs,ok.bsz,ok.noex,ok.exfs,ok.funs,ok.frf⟩
section
variable {X:Cx} {pins:List (Addr×Obj)} {σ:St} {H:Hp} {s:Shared} {E:Value→Shared→Prop}
theorem Inv.wish (I:Inv X pins σ H s) (E:Value→Shared→Prop):Inv (X.wish E) pins σ H s:=⟨I.ok.wish E,I.os,I.bare,I.base,I.loc,I.cell,I.free,I.freeC,I.pin,I.hok,I.len⟩
theorem Inv.unwish (I:Inv (X.wish E) pins σ H s):Inv X pins σ H s:=⟨I.ok.unwish,I.os,I.bare,I.base,I.loc,I.cell,I.free,I.freeC,I.pin,I.hok,I.len⟩
theorem SP.unwish {D:Ends} {f:Flow} {s':Shared} (h:SP (X.wish E) pins D f s'):SP X pins D f s':=by
  cases f with
  | next=>obtain ⟨σ',H',I,q⟩:=h; exact ⟨σ',H',I.unwish,q⟩
  | brk=>obtain ⟨σ',H',I,q⟩:=h; exact ⟨σ',H',I.unwish,q⟩
  | cont=>obtain ⟨σ',H',I,q⟩:=h; exact ⟨σ',H',I.unwish,q⟩
  | ret u=>obtain ⟨v,σ',H',I,r,q⟩:=h; exact ⟨v,σ',H',I.unwish,r,q⟩
theorem PSs.nox {st:List Stmt} {t:TS} (h:PSs X.nox st t):PSs X st t:=fun pins s σ H D I hw =>
  wpAny_mono (h pins s σ H D (I.wish _) hw) (fun _ _ q=>q.unwish) fun _ _ z=>False.elim z
end
section
variable {X:Cx} {st:Stmt} {rest:List Stmt} {t u:TS} {e:Expr} {te:TE} {pos:Pos}
def tNext:TS:=fun D σ H=>D.nx σ H
def tSeq (t u:TS):TS:=fun D σ H=>t { D with nx:=u D } σ H
theorem pss_nil:PSs X [] tNext:=fun _ _ σ H _ I h=>wpAny_execs_nil ⟨σ,H,I,h⟩
theorem pss_cons (h1:PS X st t) (h2:PSs X rest u):PSs X (st::rest) (tSeq t u):=by
  intro pins s σ H D I h
  refine wpAny_execs_cons (thn (h1 pins s σ H { D with nx:=u D } I h) fun f s1 q=>?_)
  cases f with
  | next =>
    obtain ⟨σ',H',I',q⟩:=q
    exact h2 pins s1 σ' H' D I' q
  | ret v=>exact q
  | brk=>exact q
  | cont=>exact q
theorem pss_one (h1:PS X st t):PSs X [st] t:=by
  intro pins s σ H D I h
  refine wpAny_execs_cons (thn (h1 pins s σ H D I h) fun f s1 q=>?_)
  cases f with
  | next=>exact wpAny_execs_nil q
  | ret v=>exact q
  | brk=>exact q
  | cont=>exact q
def tCont:TS:=fun D σ H=>D.ct σ H
theorem ps_continue:PS X (.Continue pos) tCont:=fun _ _ σ H _ I h=>wpAny_Continue ⟨σ,H,I,h⟩
theorem Inv.quiet {pins:List (Addr×Obj)} {σ:St} {H:Hp} {s:Shared} (I:Inv X pins σ H s):interactive X.env=false:=by simp [interactive,I.ok.kind]
def tDrop (te:TE):TS:=fun D σ H=>te σ H fun _ H1=>D.nx σ H1
theorem ps_expr (he:PE X e te) (hs:swapsWith e none pos.line X.env=pure false:=by rfl):PS X (.Expr e pos) (tDrop te):=by
  intro pins s σ H D I h
  exact wpAny_Expr_any (thn (he pins s σ H _ I h) fun v s1 ⟨x,H1,I1,r1,q1⟩=>⟨σ,H1,I1,q1⟩) I.quiet hs
def tRet (te:TE):TS:=fun D σ H=>te σ H D.rt
theorem ps_ret (he:PE X e te):PS X (.Return (some e) pos) (tRet te):=by
  intro pins s σ H D I h
  exact wpAny_Return_some (thn (he pins s σ H _ I h) fun v s1 ⟨x,H1,I1,r1,q1⟩=>⟨x,σ,H1,I1,r1,q1⟩)
def tIfS (c:TT) (t u:TS):TS:=fun D σ H=>c σ H fun b H1=>if b=true then t D σ H1 else u D σ H1
theorem ps_if {c:Expr} {a b:List Stmt} {tc:TT} (hc:PT X c tc) (ha:PSs X a t) (hb:PSs X b u):PS X (.If c a b pos) (tIfS tc t u):=by
  intro pins s σ H D I h
  refine wpAny_If (thn (hc pins s σ H _ I h) fun d s1 ⟨H1,I1,q1⟩=>?_)
  cases d with
  | true=>exact ha pins s1 σ H1 D I1 q1
  | false=>exact hb pins s1 σ H1 D I1 q1
end
abbrev TG:=V→St→Hp→(St→Hp→Prop)→Prop
abbrev TGs:=List V→St→Hp→(St→Hp→Prop)→Prop
def PG (X:Cx) (target:Expr) (t:TG):Prop :=
  ∀ (pins:List (Addr×Obj)) (s:Shared) (σ:St) (H:Hp) (v:V) (u:Value) (Q:St→Hp→Prop),Inv X pins σ H s→RelV v u→t v σ H Q →
    wpAny (model X.prog X.w) X.A (assign target X.env u) (fun _ s'=>∃ σ' H',Inv X pins σ' H' s'∧Q σ' H') X.xe s
def PGs (X:Cx) (ts:List Expr) (t:TGs):Prop :=
  ∀ (pins:List (Addr×Obj)) (s:Shared) (σ:St) (H:Hp) (vs:List V) (us:List Value) (Q:St→Hp→Prop),Inv X pins σ H s→Vals vs us→t vs σ H Q →
    wpAny (model X.prog X.w) X.A (assignInOrder ((assignEach ts X.env).map (·.2)) us) (fun _ s'=>∃ σ' H',Inv X pins σ' H' s'∧Q σ' H') X.xe s
abbrev TSet:=V→V→V→Hp→(Hp→Prop)→Prop
def PSet (X:Cx) (t:TSet):Prop :=
  ∀ (pins:List (Addr×Obj)) (s:Shared) (σ:St) (H:Hp) (o i v:V) (ov iv u:Value) (Q:Hp→Prop),Inv X pins σ H s→RelV o ov→RelV i iv→RelV v u→t o i v H Q →
    wpAny (model X.prog X.w) X.A (setItem ov iv u) (fun _ s'=>∃ H',Inv X pins σ H' s'∧Q H') X.xe s
abbrev TIp:=V→V→Hp→VK→Prop
def PIp (X:Cx) (op:Operator) (t:TIp):Prop :=
  ∀ (pins:List (Addr×Obj)) (s:Shared) (σ:St) (H:Hp) (x y:V) (v u:Value) (Q:VK),Inv X pins σ H s→RelV x v→RelV y u→t x y H Q →
    wpAny (model X.prog X.w) X.A (inplaceOp op v u) (EP X pins σ Q) X.xe s
section
variable {X:Cx} {pos:Pos}
def gName (i:Nat):TG:=fun v σ H Q=>Q (σ.set i (some v)) H
theorem pg_name {i:Nat} {x:Str} (hN:X.N.Nodup) (hi:X.N[i]?=some x) (hx:Loc X.env.scope x) (hf:X.fn x=true∨X.env.scope.names.lookup x=some .local:=by first | exact .inl rfl | exact .inr rfl | assumption):PG X (.Name x pos) (gName i):=by
  intro pins s σ H v u Q I r h
  exact wpAny_assign_Name (store_ok I hN hi hx r (fun s' I'=>⟨_,H,I',h⟩) hf)
def gNil:TGs:=fun vs σ H Q=>vs=[]∧Q σ H
def gCons (t:TG) (u:TGs):TGs:=fun vs σ H Q=>∃ v r,vs=v::r∧t v σ H fun σ' H'=>u r σ' H' Q
theorem pgs_nil:PGs X [] gNil:=by
  intro pins s σ H vs us Q I r h
  obtain ⟨e,h⟩:=h
  subst e
  cases r
  exact assignInOrder_nil ⟨σ,H,I,h⟩
theorem pgs_cons {e:Expr} {es:List Expr} {t:TG} {u:TGs} (h1:PG X e t) (h2:PGs X es u)
    (hs:(assignEach (e::es) X.env).map (·.2)=assign e X.env::(assignEach es X.env).map (·.2):=by rfl):PGs X (e::es) (gCons t u):=by
  intro pins s σ H vs us Q I r h
  obtain ⟨v,vr,e1,h⟩:=h
  subst e1
  cases r with
  | cons r rr =>
    rw [hs]
    refine assignInOrder_cons (thn (h1 pins s σ H _ _ _ I r h) fun _ s1 ⟨σ1,H1,I1,q1⟩=>?_)
    exact h2 pins s1 σ1 H1 _ _ Q I1 rr q1
def gTup (K:PySem.W.Frag) (n:Nat) (t:TGs):TG:=fun v σ H Q=>∃ a xs,v=.ref a∧SqT K H a xs∧xs.length=n∧t xs σ H Q
theorem pg_tup {es:List Expr} {k:Nat} {t:TGs} {n:Nat} (hc:X.calm=true) (h:PGs X es t)
    (hn:(assignEach es X.env).length=n:=by rfl) (hst:(assignEach es X.env).findIdx? (·.1)=none:=by rfl):PG X (.Tuple es k pos) (gTup X.K n t):=by
  intro pins s σ H v u Q I r hw
  obtain ⟨a,xs,e1,hq,hl,hw⟩:=hw
  subst e1
  cases r
  obtain ⟨its,rv,ht,hz⟩:=I.tuple hq
  refine assign_Tuple_tuple (I.ok.hd hc) ht (by simp [hn,← hl,rv.length]) hst fun h' hx=>?_
  have I1:Inv X pins σ H { s with heap:=h' }:=I.kept (t':=s.toks) fun b o e=>hx b o (Nat.ne_of_lt (Heap.lt_size e)) e
  exact h pins _ σ H xs _ Q I1 (by simpa using rv) hw
def gSub (to ti:TE) (t:TSet):TG:=fun v σ H Q=>to σ H fun o H1=>ti σ H1 fun i H2=>t o i v H2 fun H3=>Q σ H3
theorem pg_sub {o i:Expr} {to ti:TE} {t:TSet} (ho:PE X o to) (hi:PE X i ti) (hs:PSet X t)
    (ha:∀ v,assign (.Subscript o i pos) X.env v=(do
      let ov ← holding [v] (eval o X.env)
      let iv ← holding [v,ov] (eval i X.env)
      standAt pos
      holding [v,ov,iv] (setItem ov iv v)
      release [v,ov,iv] []):=by intro _; rfl):PG X (.Subscript o i pos) (gSub to ti t):=by
  intro pins s σ H v u Q I r h
  rw [ha]
  refine wpAny_bind (wpAny_holding (thn (ho pins s σ H _ I h) fun ov s1 ⟨x,H1,I1,r1,q1⟩=>?_))
  refine wpAny_bind (wpAny_holding (thn (hi pins s1 σ H1 _ I1 q1) fun iv s2 ⟨y,H2,I2,r2,q2⟩=>?_))
  refine wpAny_bind (wpAny_standAt (wpAny_bind (wpAny_holding (thn (hs pins s2 σ H2 x y v ov iv u _ I2 r1 r2 r q2) fun _ s3 ⟨H3,I3,q3⟩=>?_))))
  exact wpAny_release ⟨σ,H3,I3,q3⟩
def tAsg (te:TE) (g:TG):TS:=fun D σ H=>te σ H fun x H1=>g x σ H1 D.nx
theorem ps_asg {tg e:Expr} {te:TE} {g:TG} (he:PE X e te) (hg:PG X tg g) (hs:swapsWithSole [tg] e pos.line X.env=pure false:=by rfl) (hw:swappedStores [tg] e X.env=pure none:=by rfl)
    (h1:(assignEach [tg] X.env).map (·.2)=[assign tg X.env]:=by rfl):PS X (.Assign [tg] e pos) (tAsg te g):=by
  intro pins s σ H D I h
  refine wpAny_Assign_stores (thn (he pins s σ H _ I h) fun v s1 ⟨x,H1,I1,r1,q1⟩=>?_) hs hw
  rw [h1]
  exact thn (hg pins s1 σ H1 x v _ I1 r1 q1) fun _ s2 q=>q
theorem ps_set {i:Nat} {x:Str} {e:Expr} {te:TE} {pos':Pos} (hN:X.N.Nodup) (hi:X.N[i]?=some x) (hx:Loc X.env.scope x) (he:PE X e te) (hs:swapsWith e (some (.Name x pos')) pos.line X.env=pure false:=by rfl) (hf:X.fn x=true∨X.env.scope.names.lookup x=some .local:=by first | exact .inl rfl | exact .inr rfl | assumption) :
    PS X (.Assign [.Name x pos'] e pos) (tAsg te (gName i)):=by
  intro pins s σ H D I h
  refine wpAny_Assign_Name (thn (he pins s σ H _ I h) fun v s1 ⟨y,H1,I1,r1,q1⟩=>?_) hs
  exact store_ok I1 hN hi hx r1 (fun s2 I2=>⟨_,H1,I2,q1⟩) hf
def tAug (i:Nat) (te:TE) (ti:TIp):TS:=fun D σ H=>∃ x,σ[i]?=some (some x)∧te σ H fun y H1=>ti x y H1 fun z H2=>D.nx (σ.set i (some z)) H2
theorem ps_aug {i:Nat} {x:Str} {e:Expr} {te:TE} {op:Operator} {ti:TIp} {pos':Pos} (hN:X.N.Nodup) (hi:X.N[i]?=some x) (hx:Loc X.env.scope x) (he:PE X e te) (ho:PIp X op ti) (hf:X.fn x=true∨X.env.scope.names.lookup x=some .local:=by first | exact .inl rfl | exact .inr rfl | assumption) :
    PS X (.AugAssign (.Name x pos') op e pos) (tAug i te ti):=by
  intro pins s σ H D I h
  obtain ⟨v,e1,h⟩:=h
  obtain ⟨m,hn,hl⟩:=I.loc
  have vis:Vis X.env.scope x:=by rcases hx with k | k; exact .inl k; exact .inr (.inl k)
  obtain ⟨u,r,l⟩:=hl i x v hi e1 vis
  refine wpAny_AugAssign_Name ?_
  have go:wpAny (model X.prog X.w) X.A (eval e X.env) (fun w s₂=>wpAny (model X.prog X.w) X.A (inplaceOp op u w) (fun r s₃=>wpAny (model X.prog X.w) X.A (storeName X.env x r) (fun _=>SP X pins D .next) X.xe s₃) X.xe s₂) X.xe s:=by
    refine thn (he pins s σ H _ I h) fun w s1 ⟨y,H1,I1,r1,q1⟩=>?_
    refine thn (ho pins s1 σ H1 v y u w _ I1 r r1 q1) fun z s2 ⟨zv,H2,I2,r2,q2⟩=>?_
    exact store_ok I2 hN hi hx r2 (fun s3 I3=>⟨_,H2,I3,q2⟩) hf
  rcases l with ⟨hk,hm⟩ | ⟨hk,c,hc,hcell⟩
  · exact wpAny_loadName_local I.ok.kind hk hn hm go
  · rcases hk with hk | hk
    · exact wpAny_loadName_cell I.ok.kind hk hc hcell go
    · rcases hx with k | k
      · have:X.env.scope.names.lookup x=some .free:=hk
        rw [k] at this; cases this
      · have:X.env.scope.names.lookup x=some .free:=hk
        rw [k] at this; cases this
def tAugS (to ti te:TE) (tget:V→V→Hp→VK→Prop) (tip:TIp) (tset:TSet):TS:=fun D σ H=>to σ H fun o H1=>ti σ H1 fun i H2=>tget o i H2 fun x H3=>te σ H3 fun y H4=>tip x y H4 fun z H5=>tset o i z H5 fun H6=>D.nx σ H6
def PGet (X:Cx) (t:V→V→Hp→VK→Prop):Prop :=
  ∀ (pins:List (Addr×Obj)) (s:Shared) (σ:St) (H:Hp) (o i:V) (ov iv:Value) (Q:VK),Inv X pins σ H s→RelV o ov→RelV i iv→t o i H Q →
    wpAny (model X.prog X.w) X.A (getItem ov iv) (EP X pins σ Q) X.xe s
theorem ps_augS {o i e:Expr} {to ti te:TE} {tget:V→V→Hp→VK→Prop} {tip:TIp} {tset:TSet} {op:Operator} {tpos:Pos} (ho:PE X o to) (hi:PE X i ti) (hg:PGet X tget) (he:PE X e te) (hp:PIp X op tip) (hs:PSet X tset)
    (ha:∀ ov iv new,augStore i ov iv new=(do holding [new,ov,iv] (setItem ov iv new); release [new,ov,iv] []; pure .next):=by intros; rfl):PS X (.AugAssign (.Subscript o i tpos) op e pos) (tAugS to ti te tget tip tset):=by
  intro pins s σ H D I h
  refine wpAny_AugAssign_SubscriptAny (thn (ho pins s σ H _ I h) fun ov s1 ⟨x1,H1,I1,r1,q1⟩=>?_) ha
  refine thn (hi pins s1 σ H1 _ I1 q1) fun iv s2 ⟨x2,H2,I2,r2,q2⟩=>?_
  refine thn (hg pins s2 σ H2 x1 x2 ov iv _ I2 r1 r2 q2) fun old s3 ⟨x3,H3,I3,r3,q3⟩=>?_
  refine thn (he pins s3 σ H3 _ I3 q3) fun v s4 ⟨x4,H4,I4,r4,q4⟩=>?_
  refine thn (hp pins s4 σ H4 x3 x4 old v _ I4 r3 r4 q4) fun new s5 ⟨x5,H5,I5,r5,q5⟩=>?_
  exact thn (hs pins s5 σ H5 x1 x2 x5 ov iv new _ I5 r1 r2 r5 q5) fun _ s6 ⟨H6,I6,q6⟩=>⟨σ,H6,I6,q6⟩
def ipI (f:Int→Int→Int):TIp:=fun x y H Q=>∃ i j,x=.int i∧y=.int j∧Q (.int (f i j)) H
theorem ip_sub:PIp X .Sub (ipI fun i j=>i-j):=by
  intro pins s σ H x y v u Q I r1 r2 h
  obtain ⟨i,j,e1,e2,q⟩:=h
  subst e1; subst e2
  obtain ⟨t,rfl⟩:=r1
  obtain ⟨t',rfl⟩:=r2
  exact isub_int ⟨.int _,H,I.tok _,⟨_,rfl⟩,q⟩
end
section
variable {X:Cx} {pos:Pos}
def tWhile (c:TT) (tb:TS):TS:=fun D σ H=>∃ W:Nat→St→Hp→Prop,(∃ m,W m σ H)∧∀ m σ H,W m σ H →
  c σ H fun b H1=>if b=true then ∃ N:St→Hp→Prop,(∀ σ' H',N σ' H'→∃ m',m'<m∧W m' σ' H')∧tb { D with nx:=N,ct:=N,bk:=D.nx } σ H1 else D.nx σ H1
theorem ps_while {c:Expr} {body:List Stmt} {tc:TT} {tb:TS} (hp:PassesOwn (model X.prog X.w) X.A X.env X.xe) (hc:PT X c tc) (hb:PSs X body tb):PS X (.While c body [] pos) (tWhile tc tb):=by
  intro pins s σ H D I h
  obtain ⟨W,⟨m0,w0⟩,turn⟩:=h
  refine wpAny_While (codeAny_whileLoop (fun n s'=>∃ σ' H',Inv X pins σ' H' s'∧W n σ' H') ?_ m0 ⟨σ,H,I,w0⟩)
  rintro n s1 ⟨σ1,H1,I1,w1⟩
  refine wpAny_passesOwn hp (thn (hc pins s1 σ1 H1 _ I1 (turn n σ1 H1 w1)) fun b s2 ⟨H2,I2,q2⟩=>?_)
  cases b with
  | true =>
    obtain ⟨N,hN,q2⟩:=q2
    rw [if_pos rfl]
    refine wpAny_passesOwn hp (thn (hb pins s2 σ1 H2 _ I2 q2) fun f s3 q3=>?_)
    cases f with
    | next =>
      obtain ⟨σ3,H3,I3,n3⟩:=q3
      obtain ⟨m',hm,w3⟩:=hN σ3 H3 n3
      exact ⟨m',hm,σ3,H3,I3,w3⟩
    | cont =>
      obtain ⟨σ3,H3,I3,n3⟩:=q3
      obtain ⟨m',hm,w3⟩:=hN σ3 H3 n3
      exact ⟨m',hm,σ3,H3,I3,w3⟩
    | brk=>exact q3
    | ret v=>exact q3
  | false =>
    rw [if_neg Bool.false_ne_true]
    exact wpAny_execs_nil ⟨σ1,H2,I2,q2⟩
end
structure It where
  go:Nat→Hp→Prop
  yld:Nat→Hp→V→Hp→Prop
  stop:Nat→Hp→Prop
def FpOk (X:Cx) (pins:List (Addr×Obj)) (H:Hp) (b:Addr):Prop :=
  H b=none∧b≠X.env.locals∧b∉X.fs∧(b∈X.ex∨X.s₀.heap.objs.size≤b)∧(∀ x c,X.env.cells.lookup x=some c→c≠b)∧∀ p∈X.pn++pins,p.1≠b
theorem Inv.fpOk {X:Cx} {pins:List (Addr×Obj)} {σ:St} {H H':Hp} {s:Shared} {b:Addr} (I:Inv X pins σ H s) (hb:s.heap.objs.size≤b) (hn:H' b=none):FpOk X pins H' b:=by
  refine ⟨hn,Nat.ne_of_gt (Nat.lt_of_lt_of_le I.lt hb),I.nofs hb,.inr (Nat.le_trans I.sz hb),fun x c e z=>?_,fun p hp z=>?_⟩
  · obtain ⟨v,q⟩:=I.cell x c e
    exact absurd (Nat.lt_of_lt_of_le q.lt (by rw [z]; exact hb)) (Nat.lt_irrefl _)
  · exact absurd (Nat.lt_of_lt_of_le (Heap.lt_size (I.pin p hp).1) (by rw [z]; exact hb)) (Nat.lt_irrefl _)
structure Turn (P:Program) (w:World) (K:PySem.W.Frag) (tg:Expr) (J:It) (fp:List Addr) (it:Addr) (tn:Nat→Heap→Prop):Prop where
  mem:it∈fp
  obj:∀ i h,tn i h→∀ b∈fp,∃ o,h.get? b=some o∧∀ v,o.data≠.cell v
  keep:∀ i h h',tn i h→(∀ b∈fp,∀ o,h.get? b=some o→h'.get? b=some o)→tn i h'
  item:∀ (X:Cx),X.prog=P→X.w=w→X.K=K→X.calm=true→∀ (i:Nat) (pins:List (Addr×Obj)) (s:Shared) (σ:St) (H:Hp) (E:Value→Shared→Prop),Inv X pins σ H s→(∀ b∈fp,FpOk X pins H b)→tn i s.heap→J.go i H →
    wpAny (model P w) X.A (pyNext (.ref it)) (fun r s1=>∃ u,r=some u ∧
      wpAny (model P w) X.A (letOwnedTupleGo tg (.ref it) u) (fun _ s2=>∃ x H',Inv X pins σ H' s2∧RelV x u∧J.yld i H x H'∧tn (i+1) s2.heap∧∀ b∈fp,H' b=none) E s1) E s
  done:∀ (X:Cx),X.prog=P→X.w=w→X.K=K→X.calm=true→∀ (i:Nat) (pins:List (Addr×Obj)) (s:Shared) (σ:St) (H:Hp) (E:Value→Shared→Prop),Inv X pins σ H s→(∀ b∈fp,FpOk X pins H b)→tn i s.heap→J.stop i H →
    wpAny (model P w) X.A (pyNext (.ref it)) (fun r s1=>r=none∧Inv X pins σ H s1) E s
  self:∀ (A:Around) (i:Nat) (s:Shared) (Q:Value→Shared→Prop) (E:Value→Shared→Prop),tn i s.heap→Q (.ref it) s→wpAny (model P w) A (pyIter (.ref it)) Q E s
abbrev TI:=St→Hp→(It→Hp→Prop)→Prop
def PIE (X:Cx) (pins:List (Addr×Obj)) (σ:St) (tg:Expr) (R:It→Hp→Prop) (itv:Value) (s2:Shared):Prop :=
  ∃ (it:Addr) (fp:List Addr) (tn:Nat→Heap→Prop) (J:It) (H':Hp),itv=.ref it∧Inv X pins σ H' s2∧Turn X.prog X.w X.K tg J fp it tn∧tn 0 s2.heap∧(∀ b∈fp,FpOk X pins H' b)∧R J H'
def PI (X:Cx) (tg iter:Expr) (wi:TI):Prop :=
  ∀ (pins:List (Addr×Obj)) (s:Shared) (σ:St) (H:Hp) (R:It→Hp→Prop),Inv X pins σ H s→wi σ H R →
    wpAny (model X.prog X.w) X.A (eval iter X.env) (fun v s1=>wpAny (model X.prog X.w) X.A (pyIter v) (PIE X pins σ tg R) X.xe s1) X.xe s
theorem go_of {M:Model} {A:Around} {E:Value→Shared→Prop} {s:Shared} {tg:Expr} {it:Addr} {u:Value} {o:Obj} {n:String} {vs:Array Value} {Q:Unit→Shared→Prop} (ho:s.heap.get? it=some o) (hc:o.cls=.type n) (hd:o.data=.fields vs)
    (hn:["enumerate", "zip", "dict_itemiterator", "dict_reverseitemiterator", "odict_iterator", "itertools.zip_longest", "itertools.pairwise"].contains n=false) (hQ:Q () s):wpAny M A (letOwnedTupleGo tg (.ref it) u) Q E s:=by
  unfold letOwnedTupleGo
  cases tg <;> first
    | exact wpAny_pure hQ
    | (cases u <;> first
        | exact wpAny_pure hQ
        | (refine wpAny_bind (wpAny_load ho ?_)
           rw [hc,hd]
           show wpAny M A (if (["enumerate", "zip", "dict_itemiterator", "dict_reverseitemiterator", "odict_iterator", "itertools.zip_longest", "itertools.pairwise"].contains n&&vs[0]?==some (rawInt _))=true then _ else _) Q E s
           rw [if_neg (by intro h; rw [hn,Bool.false_and] at h; cases h)]
           exact wpAny_pure hQ))
def Itl (K:PySem.W.Frag) (a:Addr):It :=
  ⟨fun i H=>∃ xs x,SqL K H a xs∧xs[i]?=some x,fun i H x H'=>H'=H∧∀ xs,SqL K H a xs→xs[i]?=some x,fun i H=>∃ xs,SqL K H a xs∧xs.length≤i⟩
def Itr (lo:Int) (n:Nat):It:=⟨fun i _=>i<n,fun i H x H'=>H'=H∧x=.int (lo+i),fun i _=>n≤i⟩
theorem turn_list {P:Program} {w:World} {K:PySem.W.Frag} {tg:Expr} (a it:Addr):Turn P w K tg (Itl K a) [it] it (fun i h=>h.IsListIter it a i) where
  mem:=by simp
  obj:=fun i h st b hb=>by
    have e:b=it:=by simpa using hb
    subst e
    obtain ⟨o,e,c,d⟩:=st
    exact ⟨o,e,fun v z=>by rw [d] at z; cases z⟩
  keep:=fun i h h' st k=>st.at fun o e=>k it (by simp) o e
  item:=by
    intro X hP hw hK hc i pins s σ H E I hf st hg
    subst hP hw hK
    obtain ⟨xs,x,hq,hx⟩:=hg
    obtain ⟨its,rv,p,hz⟩:=I.list hq
    obtain ⟨u,hu,ru⟩:=rv.get hx
    obtain ⟨f0,f1,f2,f3,f4,f5⟩:=hf it (by simp)
    refine wpAny_pyNext_list_item st p.isList (x:=u) (by simpa using hu) fun h' st' sb=>?_
    have I1:Inv X pins σ H { s with heap:=h' }:=I.turned (t':=s.toks) (fun b o hb e=>(sb.2 b hb).trans e) f0 f1 f3 f4 f5
    obtain ⟨o,e,c,d⟩:=id st'
    exact ⟨u,rfl,go_of (s:={ s with heap:=h' }) e c d (by decide) ⟨x,H,I1,ru,⟨rfl,fun ys hy=>by rw [I.list_inj hy hq]; exact hx⟩,st',fun b hb=>(hf b hb).1⟩⟩
  done:=by
    intro X hP hw hK hc i pins s σ H E I hf st hg
    subst hP hw hK
    obtain ⟨xs,hq,hx⟩:=hg
    obtain ⟨its,rv,p,hz⟩:=I.list hq
    obtain ⟨f0,f1,f2,f3,f4,f5⟩:=hf it (by simp)
    have hl:=rv.length
    exact wpAny_pyNext_list_end (I.ok.hd hc) st p.isList (by simp; omega) fun h' eb=>⟨rfl,I.turned (t':=s.toks) (fun b o hb e=>eb b o hb e) f0 f1 f3 f4 f5⟩
  self:=fun _ _ _ _ _ st h=>wpAny_pyIter_listiter st h
theorem turn_range {P:Program} {w:World} {K:PySem.W.Frag} {tg:Expr} (it:Addr) (lo:Int) (n:Nat):Turn P w K tg (Itr lo n) [it] it (fun i h=>IsRangeIter h it (lo+(i:Nat)*1) ((n:Int)-(i:Nat)) 1) where
  mem:=by simp
  obj:=fun i h st b hb=>by
    have e:b=it:=by simpa using hb
    subst e
    exact ⟨_,st,fun v z=>by
      have z':Data.fields _=Data.cell v:=z
      cases z'⟩
  keep:=fun i h h' st k=>k it (by simp) _ st
  item:=by
    intro X hP hw hK hc i pins s σ H E I hf st hg
    subst hP hw hK
    obtain ⟨f0,f1,f2,f3,f4,f5⟩:=hf it (by simp)
    have W:=Walks.range (prog:=X.prog) (w:=X.w) (I.ok.hd hc) it lo 1 n
    refine W.item i s _ _ hg st fun v h' tk hv st' kk=>?_
    obtain ⟨t,rfl⟩:=hv
    have I1:Inv X pins σ H { s with heap:=h',toks:=tk }:=I.turned (fun b o hb e=>kk b o (by simpa using hb) e) f0 f1 f3 f4 f5
    refine ⟨_,rfl,go_of (s:={ s with heap:=h',toks:=tk }) (n := "range_iterator") st' rfl rfl (by decide) ⟨.int (lo+i),H,I1,⟨t,?_⟩,⟨rfl,rfl⟩,st',fun b hb=>(hf b hb).1⟩⟩
    rw [Int.mul_one]
  done:=by
    intro X hP hw hK hc i pins s σ H E I hf st hg
    subst hP hw hK
    obtain ⟨f0,f1,f2,f3,f4,f5⟩:=hf it (by simp)
    exact wpAny_pyNext_range_end (I.ok.hd hc) st (by have:n≤i:=hg; omega) fun h' eb=>⟨rfl,I.turned (t':=s.toks) (fun b o hb e=>eb b o hb e) f0 f1 f3 f4 f5⟩
  self:=fun _ _ _ _ _ st h=>wpAny_pyIter_rangeiter st h
end L2
namespace L2
open PySem PySem.Spec PyProof.Rows
section
variable {X:Cx} {tg:Expr}
def iList (K:PySem.W.Frag) (tl:TE):TI:=fun σ H R=>tl σ H fun x H1=>∃ a,x=.ref a∧(∃ xs,SqL K H1 a xs)∧R (Itl K a) H1
theorem pi_list {l:Expr} {tl:TE} (hl:PE X l tl):PI X tg l (iList X.K tl):=by
  intro pins s σ H R I h
  refine thn (hl pins s σ H _ I h) fun v s1 ⟨x,H1,I1,r1,q1⟩=>?_
  obtain ⟨a,e,⟨xs,hq⟩,q⟩:=q1
  subst e
  cases r1
  obtain ⟨its,rv,p,hz⟩:=I1.list hq
  refine wpAny_pyIter_list p.isList ?_
  refine ⟨s1.heap.objs.size,[s1.heap.objs.size],_,_,H1,rfl,I1.kept (t':=s1.toks) fun b o e=>Heap.get?_push_of_some _ e,turn_list a _,⟨_,Heap.get?_push_size _ rfl,rfl,rfl⟩,fun b hb=>?_,q⟩
  have e:b=s1.heap.objs.size:=by simpa using hb
  subst e
  exact I1.fpOk (Nat.le_refl _) (I1.hok.fresh (Nat.le_refl _))
theorem range_it {pins:List (Addr×Obj)} {σ:St} {H:Hp} {s:Shared} {R:It→Hp→Prop} {E:Value→Shared→Prop} {lo hi:Int} {t u v:Tok} {tk:Nat} (I:Inv X pins σ H s) (h1:-(2 ^ 62)≤lo) (h2:lo<2 ^ 62) (h3:-(2 ^ 62)≤hi) (h4:hi<2 ^ 62)
    (q:R (Itr lo (hi-lo).toNat) H):wpAny (model X.prog X.w) X.A (pyIter (.ref s.heap.objs.size)) (PIE X pins σ tg R) E { s with heap:=s.heap.push { cls:=.type "range", data:=.fields #[.int lo t,.int hi u,.int 1 v] },toks:=tk }:=by
  refine wpAny_pyIter_range (IsRange.new ..) (small_one h1 h2 h3 h4) ?_
  have I1:Inv X pins σ H { s with heap:=s.heap.push { cls:=.type "range", data:=.fields #[.int lo t,.int hi u,.int 1 v] },toks:=tk }:=I.kept fun b o e=>Heap.get?_push_of_some _ e
  refine ⟨(s.heap.push { cls:=.type "range", data:=.fields #[.int lo t,.int hi u,.int 1 v] }).objs.size,[(s.heap.push { cls:=.type "range", data:=.fields #[.int lo t,.int hi u,.int 1 v] }).objs.size],_,_,H,rfl,
    I1.kept (t':=tk) fun b o e=>Heap.get?_push_of_some _ e,turn_range _ lo (hi-lo).toNat,?_,fun b hb=>?_,q⟩
  · have e1:lo+((0:Nat):Int)*1=lo:=by simp
    have e2:(((hi-lo).toNat:Nat):Int)-((0:Nat):Int)=Builtin.Range.rangeSize lo hi 1:=by rw [rangeSize_one]; split <;> omega
    show IsRangeIter _ _ (lo+((0:Nat):Int)*1) ((((hi-lo).toNat:Nat):Int)-((0:Nat):Int)) 1
    rw [e1,e2]
    exact Heap.get?_push_size _ rfl
  · have e:b=(s.heap.push { cls:=.type "range", data:=.fields #[.int lo t,.int hi u,.int 1 v] }).objs.size:=by simpa using hb
    subst e
    exact I1.fpOk (Nat.le_refl _) (I1.hok.fresh (Nat.le_refl _))
def iRng1 (ta:TA):TI:=fun σ H R=>ta σ H fun vs H1=>∃ j:Int,vs=[.int j]∧-(2 ^ 62)≤j∧j<2 ^ 62∧R (Itr 0 j.toNat) H1
def iRng2 (ta:TA):TI:=fun σ H R=>ta σ H fun vs H1=>∃ i j:Int,vs=[.int i,.int j]∧(-(2 ^ 62)≤i∧i<2 ^ 62∧-(2 ^ 62)≤j∧j<2 ^ 62)∧R (Itr i (j-i).toNat) H1
theorem pi_range1 {a:Expr} {ta:TA} {p pos:Pos} (hg:Gl X "range") (hm:X.mg "range" = none) (ha:PA X [a] ta) (hs:starEach [a] X.env=[(false,eval a X.env)]:=by rfl):PI X tg (.Call (.Name "range" p) [a] [] pos) (iRng1 ta):=by
  intro pins s σ H R I h
  refine Call_ (ld_blt I hg hm boot_range (PyProof.Rows.callWith_type1 (thn (ha pos pins s σ H _ I h) fun us s1 ⟨vs,H1,I1,r1,q1⟩=>?_) hs rfl))
  obtain ⟨j,e,q1,q2,q⟩:=q1
  subst e
  cases r1 with
  | cons r rr =>
    cases rr
    obtain ⟨t,rfl⟩:=r
    exact call_range_1 (range_it I1 (by omega) (by omega) q1 q2 (by simpa using q))
theorem pi_range2 {a b:Expr} {ta:TA} {p pos:Pos} (hg:Gl X "range") (hm:X.mg "range" = none) (ha:PA X [a,b] ta) (hs:starEach [a,b] X.env=[(false,eval a X.env),(false,eval b X.env)]:=by rfl) (hs2:starEach [b] X.env=[(false,eval b X.env)]:=by rfl) :
    PI X tg (.Call (.Name "range" p) [a,b] [] pos) (iRng2 ta):=by
  intro pins s σ H R I h
  refine Call_ (ld_blt I hg hm boot_range (PyProof.Rows.callWith_type1 (thn (ha pos pins s σ H _ I h) fun us s1 ⟨vs,H1,I1,r1,q1⟩=>?_) (by rw [hs,hs2]) (by rw [hs2]; rfl)))
  obtain ⟨i,j,e,⟨q1,q2,q3,q4⟩,q⟩:=q1
  subst e
  cases r1 with
  | cons r rr =>
    cases rr with
    | cons r' rr =>
      cases rr
      obtain ⟨t,rfl⟩:=r
      obtain ⟨t',rfl⟩:=r'
      exact call_range_2 (range_it I1 q1 q2 q3 q4 q)
def tFor (wi:TI) (g:TG) (tb:TS):TS:=fun D σ H=>wi σ H fun J H1=>∃ W:Nat→Nat→St→Hp→Prop,(∃ m,W 0 m σ H1)∧∀ i m σ H,W i m σ H →
  (J.stop i H∧D.nx σ H)∨(J.go i H∧∃ N:St→Hp→Prop,(∀ σ' H',N σ' H'→∃ m',m'<m∧W (i+1) m' σ' H')∧∀ x H',J.yld i H x H'→g x σ H' fun σ2 H2=>tb { D with nx:=N,ct:=N,bk:=D.nx } σ2 H2)
def pinsAt (fp:List Addr) (h:Heap):List (Addr×Obj):=fp.filterMap fun b=>(h.get? b).map fun o=>(b,o)
theorem mem_pinsAt {fp:List Addr} {h:Heap} {b:Addr} {o:Obj} (hb:b∈fp) (e:h.get? b=some o):(b,o)∈pinsAt fp h:=List.mem_filterMap.mpr ⟨b,hb,by rw [e]; rfl⟩
theorem of_pinsAt {fp:List Addr} {h:Heap} {p:Addr×Obj} (hp:p∈pinsAt fp h):p.1∈fp∧h.get? p.1=some p.2:=by
  obtain ⟨b,hb,e⟩:=List.mem_filterMap.mp hp
  cases q:h.get? b with
  | none=>rw [q] at e; cases e
  | some o =>
    rw [q] at e
    have e':(b,o)=p:=Option.some.inj e
    subst e'
    exact ⟨hb,q⟩
theorem Inv.pinned {pins:List (Addr×Obj)} {σ:St} {H:Hp} {s:Shared} {fp:List Addr} (I:Inv X pins σ H s) (hf:∀ b∈fp,FpOk X pins H b) (ho:∀ b∈fp,∃ o,s.heap.get? b=some o∧∀ v,o.data≠.cell v):Inv X (pins++pinsAt fp s.heap) σ H s :=
  I.pins_of fun p hp=>(List.mem_append.mp hp).elim (fun z=>I.pin p (List.mem_append_right _ z)) fun z=>by
    obtain ⟨hb,e⟩:=of_pinsAt z
    obtain ⟨f0,f1,f2,_⟩:=hf p.1 hb
    obtain ⟨o,e',d⟩:=ho p.1 hb
    rw [e] at e'; cases e'
    exact ⟨e,f0,f1,f2,d⟩
theorem Inv.unpinned {pins pl:List (Addr×Obj)} {σ:St} {H:Hp} {s:Shared} (I:Inv X (pins++pl) σ H s):Inv X pins σ H s:=I.pins_of fun p hp=>I.pin p (List.mem_append_right _ (List.mem_append_left _ hp))
theorem ps_for {iter:Expr} {body:List Stmt} {wi:TI} {g:TG} {tb:TS} {pos:Pos} (hp:PassesOwn (model X.prog X.w) X.A X.env X.xe) (hc:X.calm=true) (hi:PI X tg iter wi) (hg:PG X tg g) (hb:PSs X body tb)
    (hs:∀ x,foldedSetIterable iter X.env x=pure x:=by intro _; rfl):PS X (.For tg iter body [] pos) (tFor wi g tb):=by
  intro pins s σ H D I h
  refine wpAny_For (thn (hi pins s σ H _ I h) fun v s1 h1=>thn h1 fun itv s2 h2=>?_) hs
  obtain ⟨it,fp,tn,J,H2,e,I2,T,st2,f2,W,⟨m0,w0⟩,turn⟩:=h2
  subst e
  have stat:∀ {H':Hp},(∀ b∈fp,H' b=none)→∀ b∈fp,FpOk X pins H' b:=fun hn b hb=>⟨hn b hb,(f2 b hb).2⟩
  refine codeAny_forLoop_any (fun n s'=>∃ i σ' H',Inv X pins σ' H' s'∧tn i s'.heap∧(∀ b∈fp,H' b=none)∧W i n σ' H') ?_ m0 ⟨0,σ,H2,I2,st2,fun b hb=>(f2 b hb).1,w0⟩
  rintro n s3 ⟨i,σ3,H3,I3,st3,fr3,w3⟩
  rcases turn i n σ3 H3 w3 with ⟨stop,qn⟩ | ⟨go,N,hN,step⟩
  · refine wpAny_passesOwn hp (thn (T.done X rfl rfl rfl hc i pins s3 σ3 H3 X.xe I3 (stat fr3) st3 stop) fun r s4 ⟨hr,I4⟩=>?_)
    subst hr
    exact wpAny_execs_nil ⟨σ3,H3,I4,qn⟩
  · refine wpAny_passesOwn hp (thn (T.item X rfl rfl rfl hc i pins s3 σ3 H3 X.xe I3 (stat fr3) st3 go) fun r s4 ⟨u,hr,h4⟩=>?_)
    subst hr
    refine wpAny_passesOwn hp (thn h4 fun _ s5 ⟨x,H5,I5,r5,y5,st5,fr5⟩=>?_)
    have I5':=I5.pinned (stat fr5) (T.obj _ _ st5)
    refine wpAny_passesOwn hp (thn (hg _ s5 σ3 H5 x u _ I5' r5 (step x H5 y5)) fun _ s6 ⟨σ6,H6,I6,q6⟩=>?_)
    refine wpAny_passesOwn hp (thn (hb _ s6 σ6 H6 _ I6 q6) fun f s7 q7=>?_)
    have again:∀ {σ7:St} {H7:Hp},Inv X (pins++pinsAt fp s5.heap) σ7 H7 s7→N σ7 H7→∃ m,m<n∧∃ i σ' H',Inv X pins σ' H' s7∧tn i s7.heap∧(∀ b∈fp,H' b=none)∧W i m σ' H':=fun {σ7 H7} I7 n7=>by
      obtain ⟨m',hm,w7⟩:=hN σ7 H7 n7
      refine ⟨m',hm,i+1,σ7,H7,I7.unpinned,T.keep _ _ _ st5 fun b hb o e=>(I7.pin (b,o) (List.mem_append_right _ (List.mem_append_right _ (mem_pinsAt hb e)))).1,fun b hb=>?_,w7⟩
      obtain ⟨o,e,d⟩:=T.obj _ _ st5 b hb
      exact (I7.pin (b,o) (List.mem_append_right _ (List.mem_append_right _ (mem_pinsAt hb e)))).2.1
    cases f with
    | next=>obtain ⟨σ7,H7,I7,n7⟩:=q7; exact again I7 n7
    | cont=>obtain ⟨σ7,H7,I7,n7⟩:=q7; exact again I7 n7
    | brk=>obtain ⟨σ7,H7,I7,q7⟩:=q7; exact ⟨σ7,H7,I7.unpinned,q7⟩
    | ret v=>obtain ⟨x7,σ7,H7,I7,r7,q7⟩:=q7; exact ⟨x7,σ7,H7,I7.unpinned,r7,q7⟩
end
end L2
namespace L2
open PySem PySem.Spec PyProof.Rows
abbrev R2:=V→V→Hp→VK→Prop
def OpR (X:Cx) (f:Value→Value→Sem Value) (r:R2):Prop :=
  ∀ (pins:List (Addr×Obj)) (s:Shared) (σ:St) (H:Hp) (x y:V) (v u:Value) (Q:VK),Inv X pins σ H s→RelV x v→RelV y u→r x y H Q →
    wpAny (model X.prog X.w) X.A (f v u) (EP X pins σ Q) X.xe s
def CallR (X:Cx) (f:Value) (r:List V→Hp→VK→Prop):Prop :=
  ∀ (pins:List (Addr×Obj)) (s:Shared) (σ:St) (H:Hp) (xs:List V) (us:List Value) (Q:VK),Inv X pins σ H s→Vals xs us→r xs H Q →
    wpAny (model X.prog X.w) X.A (call f us) (EP X pins σ Q) X.xe s
def TruR (X:Cx) (r:V→Hp→(Bool→Hp→Prop)→Prop):Prop :=
  ∀ (pins:List (Addr×Obj)) (s:Shared) (σ:St) (H:Hp) (x:V) (v:Value) (Q:Bool→Hp→Prop),Inv X pins σ H s→RelV x v→r x H Q →
    wpAny (model X.prog X.w) X.A (truthy v) (TP X pins σ Q) X.xe s
def tOp (r:R2) (ta tb:TE):TE:=fun σ H Q=>ta σ H fun x H1=>tb σ H1 fun y H2=>r x y H2 Q
def rI (C:Int→Int→Prop) (g:Int→Int→V):R2:=fun x y H Q=>∃ i j,x=.int i∧y=.int j∧C i j∧Q (g i j) H
def rI0 (g:Int→Int→V):R2:=fun x y H Q=>∃ i j,x=.int i∧y=.int j∧Q (g i j) H
section
variable {X:Cx} {a b c:Expr} {ta tb tc:TE} {pos:Pos}
theorem binT (ha:PE X a ta) (hb:PE X b tb) {pins:List (Addr×Obj)} {s:Shared} {σ:St} {H:Hp} {R:V→V→Hp→Prop} (I:Inv X pins σ H s)
    (h:ta σ H fun x H1=>tb σ H1 fun y H2=>R x y H2) {Q:Value→Shared→Prop} {f:Value→Value→Sem Value}
    (hf:∀ v u s2 x y H2,Inv X pins σ H2 s2→RelV x v→RelV y u→R x y H2→wpAny (model X.prog X.w) X.A (f v u) Q X.xe s2) :
    wpAny (model X.prog X.w) X.A (eval a X.env) (fun v s₁=>wpAny (model X.prog X.w) X.A (eval b X.env) (fun u s₂=>wpAny (model X.prog X.w) X.A (f v u) Q X.xe s₂) X.xe s₁) X.xe s:=by
  refine thn (ha pins s σ H _ I h) fun v s1 ⟨x,H1,I1,r1,q1⟩=>?_
  refine thn (hb pins s1 σ H1 _ I1 q1) fun u s2 ⟨y,H2,I2,r2,q2⟩=>?_
  exact hf v u s2 x y H2 I2 r1 r2 q2
theorem pe_op {op:Operator} {r:R2} (ho:OpR X (binaryOp op) r) (ha:PE X a ta) (hb:PE X b tb):PE X (.BinOp a op b pos) (tOp r ta tb):=by
  intro pins s σ H Q I h
  exact wpAny_BinOp (binT ha hb I h fun v u s2 x y H2 I2 rx ry q=>ho pins s2 σ H2 x y v u Q I2 rx ry q)
theorem opI {f:Value→Value→Sem Value} {C:Int→Int→Prop} {g:Int→Int→Int}
    (rule:∀ (i j:Int) (t u:Tok) (s:Shared) (Q:Value→Shared→Prop) (E:Value→Shared→Prop),C i j→Q (.int (g i j) s.toks) { s with toks:=s.toks+1 }→wpAny (model X.prog X.w) X.A (f (.int i t) (.int j u)) Q E s) :
    OpR X f (rI C fun i j=>.int (g i j)):=by
  intro pins s σ H x y v u Q I rx ry h
  obtain ⟨i,j,rfl,rfl,hc,q⟩:=h
  obtain ⟨t,rfl⟩:=rx
  obtain ⟨t',rfl⟩:=ry
  exact rule i j t t' s _ _ hc ⟨.int (g i j),H,I.tok _,⟨_,rfl⟩,q⟩
theorem opI0 {f:Value→Value→Sem Value} {g:Int→Int→Int}
    (rule:∀ (i j:Int) (t u:Tok) (s:Shared) (Q:Value→Shared→Prop) (E:Value→Shared→Prop),Q (.int (g i j) s.toks) { s with toks:=s.toks+1 }→wpAny (model X.prog X.w) X.A (f (.int i t) (.int j u)) Q E s) :
    OpR X f (rI0 fun i j=>.int (g i j)):=by
  intro pins s σ H x y v u Q I rx ry h
  obtain ⟨i,j,rfl,rfl,q⟩:=h
  obtain ⟨t,rfl⟩:=rx
  obtain ⟨t',rfl⟩:=ry
  exact rule i j t t' s _ _ ⟨.int (g i j),H,I.tok _,⟨_,rfl⟩,q⟩
theorem opB0 {f:Value→Value→Sem Value} {g:Int→Int→Bool}
    (rule:∀ (i j:Int) (t u:Tok) (s:Shared) (Q:Value→Shared→Prop) (E:Value→Shared→Prop),Q (.bool (g i j)) s→wpAny (model X.prog X.w) X.A (f (.int i t) (.int j u)) Q E s) :
    OpR X f (rI0 fun i j=>.bl (g i j)):=by
  intro pins s σ H x y v u Q I rx ry h
  obtain ⟨i,j,rfl,rfl,q⟩:=h
  obtain ⟨t,rfl⟩:=rx
  obtain ⟨t',rfl⟩:=ry
  exact rule i j t t' s _ _ ⟨.bl (g i j),H,I,rfl,q⟩
def CPow (i j:Int):Prop:=0≤j∧j≤1000000∧i.natAbs<2 ^ 64
def CMul (i j:Int):Prop:=(-(2 ^ 64)<i∧i<2 ^ 64)∨(-(2 ^ 64)<j∧j<2 ^ 64)
theorem CMul.ok {i j:Int} (h:CMul i j):IntMulOk i j:=by
  rcases h with ⟨h1,h2⟩ | ⟨h1,h2⟩
  · exact .of_left (intBits_le_64 h1 h2)
  · exact .of_right (intBits_le_64 h1 h2)
theorem op_add:OpR X (binaryOp .Add) (rI0 fun i j=>.int (i+j)):=opI0 fun _ _ _ _ _ _ _ q=>add_int q
theorem op_sub:OpR X (binaryOp .Sub) (rI0 fun i j=>.int (i-j)):=opI0 fun _ _ _ _ _ _ _ q=>sub_int q
theorem op_mod:OpR X (binaryOp .Mod) (rI (fun _ j=>0<j) fun i j=>.int (i % j)):=opI fun i j _ _ _ _ _ hc q=>by
  have h1:(0:Int)<j:=hc
  exact mod_int' (by omega) (by rw [Int.fmod_eq_emod_of_nonneg i (by omega)]; exact q)
theorem op_pow:OpR X (binaryOp .Pow) (rI CPow fun i j=>.int (i ^ j.toNat)):=opI fun _ _ _ _ _ _ _ hc q=>pow_int_small hc.1 hc.2.1 hc.2.2 q
end
def scal:V→V→Bool
  | .non,.non=>true | .non,.int _=>true | .int _,.non=>true | .non,.bl _=>true | .bl _,.non=>true | .non,.str _=>true | .str _,.non=>true
  | .int _,.int _=>true | .bl _,.bl _=>true | .str _,.str _=>true | .byt _,.byt _=>true
  | .int _,.str _=>true | .str _,.int _=>true | .bl _,.str _=>true | .str _,.bl _=>true
  | _,_=>false
def rEq:R2:=fun x y H Q=>scal x y=true∧Q (.bl (decide (x=y))) H
def rNe:R2:=fun x y H Q=>scal x y=true∧Q (.bl (!decide (x=y))) H
theorem dec_int {i j:Int}:decide (V.int i=V.int j)=(i==j):=by
  rw [Bool.eq_iff_iff]
  simp
theorem dec_bl {i j:Bool}:decide (V.bl i=V.bl j)=(i==j):=by
  rw [Bool.eq_iff_iff]
  simp
theorem dec_str {i j:Str}:decide (V.str i=V.str j)=(i==j):=by
  rw [Bool.eq_iff_iff]
  simp
theorem dec_byt {i j:Array UInt8}:decide (V.byt i=V.byt j)=(i.toList==j.toList):=by
  rw [Bool.eq_iff_iff]
  cases i
  cases j
  simp
section
variable {X:Cx} {a b c:Expr} {ta tb tc:TE} {pos:Pos}
theorem fin_bl {pins:List (Addr×Obj)} {σ:St} {H:Hp} {s:Shared} {Q:VK} {k k':Bool} (I:Inv X pins σ H s) (q:Q (.bl k) H) (e:k=k'):EP X pins σ Q (.bool k') s:=by
  subst e
  exact ⟨.bl k,H,I,rfl,q⟩
theorem op_eq:OpR X (compareOp .Eq) rEq:=by
  intro pins s σ H x y v u Q I rx ry h
  obtain ⟨hs,q⟩:=h
  cases x with
  | non =>
    cases rx
    cases y with
    | non=>cases ry; exact PySem.EqNone.eq_none_none (fin_bl I q (by simp))
    | bl j=>cases ry; exact PySem.EqNone.eq_none_bool (fin_bl I q (by simp))
    | int j=>obtain ⟨t',rfl⟩:=ry; exact PySem.EqNone.eq_none_int (fin_bl I q (by simp))
    | str j=>obtain ⟨t',rfl⟩:=ry; exact PySem.EqNone.eq_none_str (fin_bl I q (by simp))
    | _=>exact absurd (show false=true from hs) Bool.false_ne_true
  | bl i =>
    cases rx
    cases y with
    | non=>cases ry; exact PySem.EqNone.eq_bool_none (fin_bl I q (by simp))
    | bl j=>cases ry; exact eq_bool (fin_bl I q dec_bl)
    | str j=>obtain ⟨t',rfl⟩:=ry; exact PySem.EqMixed.eq_bool_str (fin_bl I q (by simp))
    | _=>exact absurd (show false=true from hs) Bool.false_ne_true
  | int i =>
    obtain ⟨t,rfl⟩:=rx
    cases y with
    | non=>cases ry; exact PySem.EqNone.eq_int_none (fin_bl I q (by simp))
    | int j=>obtain ⟨t',rfl⟩:=ry; exact eq_int (fin_bl I q dec_int)
    | str j=>obtain ⟨t',rfl⟩:=ry; exact PySem.EqMixed.eq_int_str (fin_bl I q (by simp))
    | _=>exact absurd (show false=true from hs) Bool.false_ne_true
  | str i =>
    obtain ⟨t,rfl⟩:=rx
    cases y with
    | non=>cases ry; exact PySem.EqNone.eq_str_none (fin_bl I q (by simp))
    | bl j=>cases ry; exact PySem.EqMixed.eq_str_bool (fin_bl I q (by simp))
    | int j=>obtain ⟨t',rfl⟩:=ry; exact PySem.EqMixed.eq_str_int (fin_bl I q (by simp))
    | str j=>obtain ⟨t',rfl⟩:=ry; exact eq_str (fin_bl I q dec_str)
    | _=>exact absurd (show false=true from hs) Bool.false_ne_true
  | byt i =>
    obtain ⟨t,rfl⟩:=rx
    cases y with
    | byt j=>obtain ⟨t',rfl⟩:=ry; exact PySem.W.eq_bytes (fin_bl I q dec_byt)
    | _=>exact absurd (show false=true from hs) Bool.false_ne_true
  | _=>cases y <;> exact absurd (show false=true from hs) Bool.false_ne_true
theorem op_ne:OpR X (compareOp .NotEq) rNe:=by
  intro pins s σ H x y v u Q I rx ry h
  obtain ⟨hs,q⟩:=h
  cases x with
  | non =>
    cases rx
    cases y with
    | non=>cases ry; exact PySem.EqNone.ne_none_none (fin_bl I q (by simp))
    | bl j=>cases ry; exact PySem.EqNone.ne_none_bool (fin_bl I q (by simp))
    | int j=>obtain ⟨t',rfl⟩:=ry; exact PySem.EqNone.ne_none_int (fin_bl I q (by simp))
    | str j=>obtain ⟨t',rfl⟩:=ry; exact PySem.EqNone.ne_none_str (fin_bl I q (by simp))
    | _=>exact absurd (show false=true from hs) Bool.false_ne_true
  | bl i =>
    cases rx
    cases y with
    | non=>cases ry; exact PySem.EqNone.ne_bool_none (fin_bl I q (by simp))
    | bl j=>cases ry; exact ne_bool (fin_bl I q (congrArg not dec_bl))
    | str j=>obtain ⟨t',rfl⟩:=ry; exact PySem.EqMixed.ne_bool_str (fin_bl I q (by simp))
    | _=>exact absurd (show false=true from hs) Bool.false_ne_true
  | int i =>
    obtain ⟨t,rfl⟩:=rx
    cases y with
    | non=>cases ry; exact PySem.EqNone.ne_int_none (fin_bl I q (by simp))
    | int j=>obtain ⟨t',rfl⟩:=ry; exact ne_int (fin_bl I q (congrArg not dec_int))
    | str j=>obtain ⟨t',rfl⟩:=ry; exact PySem.EqMixed.ne_int_str (fin_bl I q (by simp))
    | _=>exact absurd (show false=true from hs) Bool.false_ne_true
  | str i =>
    obtain ⟨t,rfl⟩:=rx
    cases y with
    | non=>cases ry; exact PySem.EqNone.ne_str_none (fin_bl I q (by simp))
    | bl j=>cases ry; exact PySem.EqMixed.ne_str_bool (fin_bl I q (by simp))
    | int j=>obtain ⟨t',rfl⟩:=ry; exact PySem.EqMixed.ne_str_int (fin_bl I q (by simp))
    | str j=>obtain ⟨t',rfl⟩:=ry; exact ne_str (fin_bl I q (congrArg not dec_str))
    | _=>exact absurd (show false=true from hs) Bool.false_ne_true
  | byt i =>
    obtain ⟨t,rfl⟩:=rx
    cases y with
    | byt j=>obtain ⟨t',rfl⟩:=ry; exact PySem.W.ne_bytes (fin_bl I q (congrArg not dec_byt))
    | _=>exact absurd (show false=true from hs) Bool.false_ne_true
  | _=>cases y <;> exact absurd (show false=true from hs) Bool.false_ne_true
theorem op_lt:OpR X (compareOp .Lt) (rI0 fun i j=>.bl (decide (i<j))):=opB0 fun _ _ _ _ _ _ _ q=>lt_int q
theorem op_le:OpR X (compareOp .LtE) (rI0 fun i j=>.bl (decide (i≤j))):=opB0 fun _ _ _ _ _ _ _ q=>le_int q
theorem op_gt:OpR X (compareOp .Gt) (rI0 fun i j=>.bl (decide (j<i))):=opB0 fun _ _ _ _ _ _ _ q=>gt_int q
theorem nomark (b:Expr) {op:CmpOp} (h:op≠.In:=by decide) (h2:op≠.NotIn:=by decide):behindInMarks op b=false:=by
  have e1:(op==CmpOp.In)=false:=by cases op <;> first | rfl | exact absurd rfl h
  have e2:(op==CmpOp.NotIn)=false:=by cases op <;> first | rfl | exact absurd rfl h2
  cases b <;> simp [behindInMarks,e1,e2]
theorem pe_cmpR {op:CmpOp} {r:R2} (ho:OpR X (compareOp op) r) (ha:PE X a ta) (hb:PE X b tb) (hm:behindInMarks op b=false):PE X (.Compare a [op] [b] pos) (tOp r ta tb):=by
  intro pins s σ H Q I h
  exact wpAny_Compare1 (binT ha hb I h fun v u s2 x y H2 I2 rx ry q=>ho pins s2 σ H2 x y v u Q I2 rx ry q) hm
def tTest (t:TE):TT:=fun σ H Q=>t σ H fun x H'=>∃ k,x=.bl k∧Q k H'
theorem pt_cmpR {op:CmpOp} {r:R2} (ho:OpR X (compareOp op) r) (ha:PE X a ta) (hb:PE X b tb) (hm:behindInMarks op b=false):PT X (.Compare a [op] [b] pos) (tTest (tOp r ta tb)):=by
  intro pins s σ H Q I h
  refine wpAny_isTrue_Compare1 (thn (ha pins s σ H _ I h) fun v s1 ⟨x,H1,I1,r1,q1⟩=>thn (hb pins s1 σ H1 _ I1 q1) fun u s2 ⟨y,H2,I2,r2,q2⟩ =>
    thn (ho pins s2 σ H2 x y v u _ I2 r1 r2 q2) fun c s3 ⟨z,H3,I3,r3,k,e,q3⟩=>?_) hm
  subst e
  cases r3
  exact wpAny_truthy_bool ⟨H3,I3,q3⟩
def TruV (K:PySem.W.Frag) (x:V) (H:Hp) (k:Bool):Prop :=
  match x with
  | .non=>k=false
  | .bl b=>k=b
  | .int i=>k=(i != 0)
  | .str y=>y.length≤sizeLine∧k=((y.length:Int) != 0)
  | .byt y=>y.size≤sizeLine∧k=((y.size:Int) != 0)
  | .ref p=>(∃ xs,SqL K H p xs∧k=!xs.isEmpty)∨(∃ xs,SqT K H p xs∧k=!xs.isEmpty)∨∃ kvs,H p=some (.dK kvs)∧k=!kvs.isEmpty
  | _=>False
theorem isEmpty_kv {κ:Type} {kvs:List (κ×V)} {vs:List (κ×Value)} (r:KV kvs vs):(!vs.isEmpty)=!kvs.isEmpty:=by
  cases r <;> rfl
theorem isEmpty_of {xs:List V} {its:List Value} (r:Vals xs its):(!its.toArray.isEmpty)=!xs.isEmpty:=by
  cases r <;> simp
theorem line63:(sizeLine:Nat)<2 ^ 63:=by rw [sizeLine_eq]; decide
theorem tru_ok:TruR X (fun x H Q=>∃ k,TruV X.K x H k∧Q k H):=by
  intro pins s σ H x v Q I rx h
  obtain ⟨k,e,q⟩:=h
  have hl:=line63
  have hs:sizeLine=16777216:=sizeLine_eq
  cases x with
  | non =>
    cases rx
    have e':k=false:=e
    subst e'
    exact truthy_none ⟨H,I,q⟩
  | bl b =>
    cases rx
    have e':k=b:=e
    subst e'
    exact wpAny_truthy_bool ⟨H,I,q⟩
  | int i =>
    obtain ⟨t,rfl⟩:=rx
    have e':k=(i != 0):=e
    subst e'
    exact PySem.P.truthy_int ⟨H,I,q⟩
  | str y =>
    obtain ⟨t,rfl⟩:=rx
    obtain ⟨hy,e'⟩:y.length≤sizeLine∧k=((y.length:Int) != 0):=e
    subst e'
    exact PySem.P.truthy_str (by omega) ⟨H,I.tok _,q⟩
  | byt y =>
    obtain ⟨t,rfl⟩:=rx
    obtain ⟨hy,e'⟩:y.size≤sizeLine∧k=((y.size:Int) != 0):=e
    subst e'
    exact PySem.W.truthy_bytes (by omega) ⟨H,I.tok _,q⟩
  | ref p =>
    cases rx
    have e':(∃ xs,SqL X.K H p xs∧k=!xs.isEmpty)∨(∃ xs,SqT X.K H p xs∧k=!xs.isEmpty)∨∃ kvs,H p=some (.dK kvs)∧k=!kvs.isEmpty:=e
    rcases e' with ⟨xs,hx,e'⟩ | ⟨xs,hx,e'⟩ | ⟨kvs,hx,e'⟩
    · subst e'
      obtain ⟨its,r,pl,hz⟩:=I.list hx
      have hlen:=r.length
      exact wpAny_truthy_list pl.isList (by simp only [List.size_toArray]; omega) ⟨H,I.tok _,by rw [isEmpty_of r]; exact q⟩
    · subst e'
      obtain ⟨its,r,pl,hz⟩:=I.tuple hx
      have hlen:=r.length
      exact truthy_tuple pl (by simp only [List.size_toArray]; omega) ⟨H,I.tok _,by rw [isEmpty_of r]; exact q⟩
    · subst e'
      obtain ⟨hz,hS,vs,r,m⟩:kvs.length≤sizeLine∧(p==sysModules)=false∧∃ vs,KV kvs vs∧s.heap.DictOf (mixKind X.prog X.w) p vs:=I.hok p _ hx
      have hlen:kvs.length=vs.length:=Paired.length r
      exact wpAny_truthy_dict hS m (by omega) ⟨H,I.tok _,by rw [isEmpty_kv r]; exact q⟩
  | _=>exact (show False from e).elim
theorem pt_truth (ha:PE X a ta) (he:∀ whole,isTrue a X.env whole=(do let v ← whole; standAt a.pos; holding [v] (truthy v))) :
    PT X a (fun σ H Q=>ta σ H fun x H'=>∃ k,TruV X.K x H' k∧Q k H'):=by
  intro pins s σ H Q I h
  exact isTrue_plain (thn (ha pins s σ H _ I h) fun v s1 ⟨x,H1,I1,r1,q1⟩=>tru_ok pins s1 σ H1 x v Q I1 r1 q1) (he _)
theorem vals1 {x:V} {us:List Value} (r:Vals [x] us):∃ u,us=[u]∧RelV x u:=by
  cases r with
  | cons r1 r2=>cases r2; exact ⟨_,rfl,r1⟩
theorem vals2 {x y:V} {us:List Value} (r:Vals [x,y] us):∃ u w',us=[u,w']∧RelV x u∧RelV y w':=by
  cases r with
  | cons r1 r2 =>
    cases r2 with
    | cons r3 r4=>cases r4; exact ⟨_,_,rfl,r1,r3⟩
theorem call_min2 (hc:X.calm=true):CallR X (.builtin "min") (fun xs H Q=>∃ i j,xs=[.int i,.int j]∧Q (.int (if j<i then j else i)) H):=by
  intro pins s σ H xs us Q I r h
  obtain ⟨i,j,rfl,q⟩:=h
  obtain ⟨u,w',rfl,⟨t,rfl⟩,⟨t',rfl⟩⟩:=vals2 r
  refine min_two_ints (I.ok.hd hc) fun h' tk k=>⟨_,H,I.kept k,?_,q⟩
  by_cases hj:j<i
  · rw [if_pos hj,if_pos hj]; exact ⟨_,rfl⟩
  · rw [if_neg hj,if_neg hj]; exact ⟨_,rfl⟩
theorem call_int1:CallR X (.type "int") (fun xs H Q=>(∃ i,xs=[.int i]∧Q (.int i) H)∨∃ k,xs=[.bl k]∧Q (.int (if k then 1 else 0)) H):=by
  intro pins s σ H xs us Q I r h
  rcases h with ⟨i,rfl,q⟩ | ⟨k,rfl,q⟩
  · obtain ⟨u,rfl,t,rfl⟩:=vals1 r
    exact call_int_int ⟨.int i,H,I,⟨_,rfl⟩,q⟩
  · obtain ⟨u,rfl,r1⟩:=vals1 r
    cases r1
    exact call_int_bool ⟨.int (if k then 1 else 0),H,I.tok _,⟨_,rfl⟩,q⟩
def LenV (K:PySem.W.Frag) (x:V) (H:Hp) (n:Nat):Prop :=
  match x with
  | .str y=>y.length≤sizeLine∧n=y.length
  | .byt y=>y.size≤sizeLine∧n=y.size
  | .ref p=>(∃ xs,SqL K H p xs∧n=xs.length)∨∃ xs,SqT K H p xs∧n=xs.length
  | _=>False
theorem call_len:CallR X (.builtin "len") (fun xs H Q=>∃ x n,xs=[x]∧LenV X.K x H n∧Q (.int n) H):=by
  intro pins s σ H xs us Q I r h
  obtain ⟨x,n,rfl,e,q⟩:=h
  obtain ⟨u,rfl,rx⟩:=vals1 r
  have hl:=line63
  have hs:sizeLine=16777216:=sizeLine_eq
  cases x with
  | str y =>
    obtain ⟨t,rfl⟩:=rx
    obtain ⟨hy,e'⟩:y.length≤sizeLine∧n=y.length:=e
    subst e'
    exact len_str (by omega) ⟨.int _,H,I.tok _,⟨_,rfl⟩,q⟩
  | byt y =>
    obtain ⟨t,rfl⟩:=rx
    obtain ⟨hy,e'⟩:y.size≤sizeLine∧n=y.size:=e
    subst e'
    exact PySem.W.len_bytes (by omega) ⟨.int _,H,I.tok _,⟨_,rfl⟩,q⟩
  | ref p =>
    cases rx
    have e':(∃ xs,SqL X.K H p xs∧n=xs.length)∨∃ xs,SqT X.K H p xs∧n=xs.length:=e
    rcases e' with ⟨xs,hx,e'⟩ | ⟨xs,hx,e'⟩
    · subst e'
      obtain ⟨its,r',pl,hz⟩:=I.list hx
      have hlen:=r'.length
      exact Calls.call_len_list pl.isList (by simp only [List.size_toArray]; omega) ⟨.int xs.length,H,I.tok _,⟨_,by simp only [List.size_toArray]; rw [hlen]⟩,q⟩
    · subst e'
      obtain ⟨its,r',pl,hz⟩:=I.tuple hx
      have hlen:=r'.length
      exact len_tuple pl (by simp only [List.size_toArray]; omega) ⟨.int xs.length,H,I.tok _,⟨_,by simp only [List.size_toArray]; rw [hlen]⟩,q⟩
  | _=>exact (show False from e).elim
end
end L2
namespace L2
open PySem PySem.Spec PyProof.Rows
structure ObjM (h:Heap) (x dx C:Addr) (mA:Str→Option Value):Prop where
  obj:h.get? x=some (PySem.W.instObj C dx)
  ns:h.Ns1 dx mA
  ne:dx≠x
theorem lookIn_ns {h:Heap} {dx:Addr} {mA:Str→Option Value} (n:h.Ns1 dx mA):∃ od,h.get? dx=some od∧∀ name,PySem.W.lookIn name od=some (mA name):=by
  obtain ⟨o,es,ep,ho,hd,hk,_,hm⟩:=n
  refine ⟨o,ho,fun name=>?_⟩
  have e:=hm name
  unfold nsFind findBy at e
  rw [← Array.find?_toList] at e
  unfold PySem.W.lookIn
  rw [hd]
  dsimp only
  split
  · rename_i y q
    rw [q] at e
    exact congrArg some e
  · rename_i q
    rw [q] at e
    have a:es.toList.any (·.refKey)=false:=by
      rw [List.any_eq_false]
      intro y hy
      obtain ⟨z,t,hkey⟩:=hk y (Array.mem_toList_iff.mp hy)
      simp [DictEntry.refKey,hkey]
    have a':¬ es.toList.any (·.refKey)=true:=by rw [a]; exact Bool.false_ne_true
    rw [if_neg a']
    exact congrArg some e
theorem ObjM.look {h:Heap} {x dx C:Addr} {mA:Str→Option Value} (I:ObjM h x dx C mA):∃ od,PySem.W.InstAt h x (PySem.W.instObj C dx) C (some od)∧∀ name,PySem.W.lookIn name od=some (mA name) :=
  let ⟨od,ho,hl⟩:=lookIn_ns I.ns
  ⟨od,⟨I.obj,rfl,rfl,ho⟩,hl⟩
section
variable {prog:Program} {w:World} {A:Around} {E:Value→Shared→Prop} {s:Shared} {K:PySem.W.Frag} {x dx C f:Addr} {mA:Str→Option Value} {name:Str} {v:Value}
end
theorem RelO.some_of {v:V} {o:Option Value} (r:RelO (some v) o):∃ u,o=some u∧RelV v u:=by
  cases o with
  | none=>exact (show False from r).elim
  | some u=>exact ⟨u,rfl,r⟩
section
variable {P:Program} {w:World} {H H':Hp} {h h':Heap} {a C dx:Addr} {fs fs':List (Str×V)}
theorem ins_get (hok:HOk P w H h) (e:H a=some (.ins C dx fs)):∃ mA,ObjM h a dx C mA∧(∀ f,RelO (fs.lookup f) (mA f))∧PySem.Within mA (fs.map (·.1))∧fs.length≤1000∧H dx=some (.own a):=by
  obtain ⟨d,z,ne,ob,mA,n,r,q⟩:=(show ObjOk P w H h a (.ins C dx fs) from hok a _ e)
  exact ⟨mA,⟨ob,n,ne⟩,r,q,z,d⟩
end
structure Cls (K:PySem.W.Frag) (C:Addr):Prop where
  pg:PySem.W.plainGet K C Str.empty=true
  hd:PySem.W.hasDictIn K C=true
  po:PySem.W.plainOver K C=true
  sa:PySem.W.findIn K (.ref C) "__setattr__" = some (some (.builtin "object.__setattr__"))
theorem Cls.get {K:PySem.W.Frag} {C:Addr} (c:Cls K C) (f:Str):PySem.W.plainGet K C f=true:=c.pg
structure Con (K:PySem.W.Frag) (C:Addr) (f:Str) (v:V) (u:Value):Prop where
  at_:PySem.W.findIn K (.ref C) f=some (some u)
  rel:RelV v u
  get:PySem.W.specialIn K u "__get__" = some none
  cp:PySem.W.copiedNames.contains f=false
structure Meth (K:PySem.W.Frag) (C:Addr) (m:Str) (f:Addr):Prop where
  at_:PySem.W.findIn K (.ref C) m=some (some (.ref f))
  fn:PySem.W.isFn K (.ref f)=true
  kp:PySem.W.keepIn K (.ref f)=true
section
variable {X:Cx} {pins:List (Addr×Obj)} {σ:St} {H:Hp} {s:Shared} {a C dx:Addr} {fs:List (Str×V)} {f:Str} {v:V} {A:Around} {E:Value→Shared→Prop}
end
section
variable {X:Cx} {o e value:Expr} {f:Str} {pos pos' tpos:Pos} {ta tv:TE}
end
section
variable {X:Cx} {pins:List (Addr×Obj)} {σ:St} {H:Hp} {s:Shared} {A:Around} {E:Value→Shared→Prop} {Q:Value→Shared→Prop} {c:Value} {b:Bool}
inductive TyOf (K:PySem.W.Frag) (H:Hp):V→Value→Prop where
  | non:TyOf K H .non (.type "NoneType")
  | bl (x:Bool):TyOf K H (.bl x) (.type "bool")
  | int (i:Int):TyOf K H (.int i) (.type "int")
  | str (x:Str):TyOf K H (.str x) (.type "str")
  | flt (x:UInt64):TyOf K H (.flt x) (.type "float")
  | lst {a:Addr} {xs:List V} (e:H a=some (.lst xs)):TyOf K H (.ref a) (.type "list")
  | frz {a:Addr} {o:Obj} {xs:List V} (e:H a=some (.frz o (.lst xs))):TyOf K H (.ref a) (.type "list")
  | tup {a:Addr} {xs:List V} (e:H a=some (.tup xs)):TyOf K H (.ref a) (.type "tuple")
  | dK {a:Addr} {kvs:List (Key×V)} (e:H a=some (.dK kvs)):TyOf K H (.ref a) (.type "dict")
  | dT {a:Addr} {kvs:List (List Key×V)} (e:H a=some (.dT kvs)):TyOf K H (.ref a) (.type "dict")
  | ins {a C dx:Addr} {fs:List (Str×V)} (e:H a=some (.ins C dx fs)) (cl:Cls K C) (ha:PySem.W.findIn K (.ref C) "__class__" = some (some (.builtin "object.__class__")))
      (hn:PySem.W.specialIn K (.builtin "object.__class__") "__get__" = some (some (.builtin "getset_descriptor.__get__"))) (htk:PySem.W.takesIn K (.builtin "object.__class__")=some true)
      (hm:PySem.W.mroIn K C (.type "object")=some true):TyOf K H (.ref a) (.ref C)
theorem isinst_ok {x:V} {u t:Value} (I:Inv X pins σ H s) (rx:RelV x u) (ty:TyOf X.K H x t) (e:PySem.W.kitOne X.K t c=some b) (h:∀ tk,Q (.bool b) { s with toks:=tk }) :
    wpAny (model X.prog X.w) A (call (.builtin "isinstance") [u,c]) Q E s:=by
  cases ty with
  | non=>cases (show u=Value.none from rx); exact PySem.W.kia_one PySem.W.kitx_none I.kIn True.intro e (fun z=>nomatch z) h
  | bl y=>cases (show u=Value.bool y from rx); exact PySem.W.kia_one PySem.W.kitx_bool I.kIn True.intro e (fun z=>nomatch z) h
  | int i=>obtain ⟨t,q⟩:=(show ∃ t,u=Value.int i t from rx); cases q; exact PySem.W.kia_one PySem.W.kitx_int I.kIn True.intro e (fun z=>nomatch z) h
  | str y=>obtain ⟨t,q⟩:=(show ∃ t,u=Value.str y t from rx); cases q; exact PySem.W.kia_one PySem.W.kitx_str I.kIn True.intro e (fun z=>nomatch z) h
  | flt y=>obtain ⟨t,q⟩:=(show ∃ t,u=Value.float y t from rx); cases q; exact PySem.W.kia_one PySem.W.kitx_float I.kIn True.intro e (fun z=>nomatch z) h
  | @lst a xs ea =>
    cases (show u=Value.ref a from rx)
    obtain ⟨_,_,n,_,h1⟩:=(show ObjOk X.prog X.w H s.heap a (.lst xs) from I.hok a _ ea)
    exact PySem.W.kia_one PySem.W.kitx_list I.kIn ⟨_,h1,rfl⟩ e (fun z=>nomatch z) h
  | @frz a ob xs ea =>
    cases (show u=Value.ref a from rx)
    obtain ⟨_,_,_,n,_,h1⟩:=(show ObjOk X.prog X.w H s.heap a (.frz ob (.lst xs)) from I.hok a _ ea)
    exact PySem.W.kia_one PySem.W.kitx_list I.kIn ⟨_,h1,rfl⟩ e (fun z=>nomatch z) h
  | @tup a xs ea =>
    cases (show u=Value.ref a from rx)
    obtain ⟨_,_,_,p⟩:=(show ObjOk X.prog X.w H s.heap a (.tup xs) from I.hok a _ ea)
    obtain ⟨o,h1,h2,_⟩:=p
    exact PySem.W.kia_one PySem.W.kitx_tuple I.kIn ⟨o,h1,h2⟩ e (fun z=>nomatch z) h
  | @dK a kvs ea =>
    cases (show u=Value.ref a from rx)
    obtain ⟨_,_,vs,_,p⟩:=(show ObjOk X.prog X.w H s.heap a (.dK kvs) from I.hok a _ ea)
    obtain ⟨o,es,ep,h1,h2,_⟩:=p
    exact PySem.W.kia_one PySem.W.kitx_dict I.kIn ⟨o,h1,h2.1⟩ e (fun z=>nomatch z) h
  | @dT a kvs ea =>
    cases (show u=Value.ref a from rx)
    obtain ⟨_,_,xs,_,o,es,ep,h1,h2,_⟩:=(show ObjOk X.prog X.w H s.heap a (.dT kvs) from I.hok a _ ea)
    exact PySem.W.kia_one PySem.W.kitx_dict I.kIn ⟨o,h1,h2.1⟩ e (fun z=>nomatch z) h
  | @ins a C dx fs ea cl ha hn htk hm =>
    cases (show u=Value.ref a from rx)
    obtain ⟨mA,O,_⟩:=ins_get I.hok ea
    obtain ⟨od,J,_⟩:=O.look
    exact PySem.W.kia_one (PySem.W.kitx_own (cl.get _) cl.hd ha hn htk hm) I.kIn J e (fun z=>nomatch z) h
end
end L2
namespace L2
open PySem PySem.Spec PyProof.Rows
structure Room (k:Nat) (A:Around):Prop where
  hd:A.handled=none
  dp:A.depth+3*k+5<recursionLimit
  un:A.units+16*k+200<cLine
theorem Room.mono {j k:Nat} {A:Around} (r:Room k A) (h:j≤k):Room j A:=⟨r.hd,by have:=r.dp; omega,by have:=r.un; omega⟩
theorem Room.deeper {k:Nat} {A:Around} (r:Room (k+1) A) (env:Env):Room k (A.deeper env) :=
  ⟨r.hd,by have:=r.dp; show A.depth+1+3*k+5 < _; omega,by have:=r.un; show A.units+3+16*k+200 < _; omega⟩
theorem Room.depth {k:Nat} {A:Around} (r:Room k A):A.depth<recursionLimit:=by have:=r.dp; omega
theorem Room.units {k:Nat} {A:Around} (r:Room k A):A.units+64<cLine:=by have:=r.un; omega
def tNil:TA:=fun _ H Q=>Q [] H
def tCons (ta:TE) (tr:TA):TA:=fun σ H Q=>ta σ H fun x H1=>tr σ H1 fun xs H2=>Q (x::xs) H2
section
variable {X:Cx} {e:Expr} {es:List Expr} {te:TE} {t:TA} {pos:Pos}
theorem pa_nil:PA X [] tNil:=fun _ _ _ _ H Q I h=>Calls.spliced_nil ⟨[],H,I,.nil,h⟩
theorem pa_cons (ha:PE X e te) (hr:PA X es t) (hs:starEach (e::es) X.env=(false,eval e X.env)::starEach es X.env:=by rfl):PA X (e::es) (tCons te t):=by
  intro pos pins s σ H Q I h
  rw [hs]
  show wpAny _ _ (spliced ((false,eval e X.env)::backTo pos (starEach es X.env))) _ _ s
  refine Calls.spliced_cons (thn (ha pins s σ H _ I h) fun u s1 ⟨x,H1,I1,r1,q1⟩=>?_)
  exact thn (hr pos pins s1 σ H1 _ I1 q1) fun us s2 ⟨xs,H2,I2,r2,q2⟩=>⟨x::xs,H2,I2,.cons r1 r2,q2⟩
def tTup (t:TA):TE:=fun σ H Q=>t σ H fun xs H1=>xs.length≤sizeLine∧∀ p,H1 p=none→Q (.ref p) (upd H1 p (.tup xs))
def tLst (t:TA):TE:=fun σ H Q=>t σ H fun xs H1=>xs.length≤sizeLine∧∀ p,H1 p=none→Q (.ref p) (upd H1 p (.lst xs))
theorem pe_tup {x1} (h:PA X es t):PE X (.Tuple es x1 pos) (tTup t):=by
  intro pins s σ H Q I hq
  refine wpAny_Tuple_spliced (thn (h pos pins s σ H _ I hq) fun us s1 ⟨xs,H1,I1,r,z,q⟩=>⟨by rw [← r.length]; exact z,?_⟩)
  have hf:H1 s1.heap.objs.size=none:=I1.hok.fresh (Nat.le_refl _)
  refine ⟨.ref s1.heap.objs.size,upd H1 s1.heap.objs.size (.tup xs),I1.laid (t':=s1.toks) (fun b u e=>Heap.get?_push_of_some _ e) (Nat.le_refl _) ?_,rfl,q _ hf⟩
  exact ⟨z,us,r,⟨_,Heap.get?_push_size _ rfl,rfl,_,rfl⟩⟩
theorem pe_lst (h:PA X es t):PE X (.List es pos) (tLst t):=by
  intro pins s σ H Q I hq
  refine wpAny_List_spliced (thn (h pos pins s σ H _ I hq) fun us s1 ⟨xs,H1,I1,r,z,q⟩=>⟨by rw [← r.length]; exact z,?_⟩)
  have hf:H1 s1.heap.objs.size=none:=I1.hok.fresh (Nat.le_refl _)
  refine ⟨.ref s1.heap.objs.size,upd H1 s1.heap.objs.size (.lst xs),I1.laid (t':=s1.toks) (fun b u e=>Heap.get?_push_of_some _ e) (Nat.le_refl _) ?_,rfl,q _ hf⟩
  exact ⟨z,us,0,r,Heap.get?_push_size _ rfl⟩
end
abbrev Sp:=List V→Hp→VK→XK→Prop
abbrev CXT:=List Env→Hp→Shared→XK→Value→Shared→Prop
structure Env0 (P:Program) (w:World) (K:PySem.W.Frag) (mg:Str→Option Value) (base:Heap) (A:Around) (outer:List Env) (s:Shared) (H:Hp):Prop where
  frames:A.frames=some outer
  mod:Mod K mg base
  bs:∀ b o,base.get? b=some o→s.heap.get? b=some o∧H b=none
  bsz:base.objs.size≤s.heap.objs.size
  funs:s.heap.FunFrames base outer
  frf:∀ b∈frs outer,H b=none
  hok:HOk P w H s.heap
  bare:AllBare s.gens
def CE (outer:List Env) (P:Program) (w:World) (H:Hp) (s:Shared) (Q:VK) (u:Value) (s':Shared):Prop :=
  ∃ v H',s'.os=s.os∧AllBare s'.gens∧Un (frs outer) [] H H' s.heap s'.heap∧HOk P w H' s'.heap∧RelV v u∧Q v H'
def CR (CX:CXT) (outer:List Env) (P:Program) (w:World) (H:Hp) (s:Shared) (Q:VK) (E:XK) (r:Result) (s':Shared):Prop :=
  match r with
  | .ok (.ret u)=>CE outer P w H s Q u s'
  | .ok _=>False
  | .error e=>CX outer H s E e s'
structure FnOk (P:Program) (w:World) (K:PySem.W.Frag) (mg:Str→Option Value) (base:Heap) (CX:CXT) (k:Nat) (f:Addr) (fd:FuncData) (ps:List Str) (sp:Sp):Prop where
  len:∀ vs H Q E,sp vs H Q E→vs.length=ps.length
  run:∀ (A:Around) (outer:List Env) (s:Shared) (H:Hp) (args:Args) (us:List Value) (vs:List V) (Q:VK) (E:XK),Room k A→Env0 P w K mg base A outer s H→BindsTo s fd args (ps.zip us)→Vals vs us→sp vs H Q E →
    codeAny (model P w) A (.call (.ref f) args) (CR CX outer P w H s Q E) s
theorem FnOk.imp {P:Program} {w:World} {K:PySem.W.Frag} {mg:Str→Option Value} {base:Heap} {CX:CXT} {k:Nat} {f:Addr} {fd:FuncData} {ps:List Str} {sp sp':Sp} (F:FnOk P w K mg base CX k f fd ps sp)
    (h:∀ vs H Q E,sp' vs H Q E→sp vs H Q E):FnOk P w K mg base CX k f fd ps sp' :=
  ⟨fun vs H Q E q=>F.len vs H Q E (h _ _ _ _ q),fun A outer s H args us vs Q E hr he hb hv hs=>F.run A outer s H args us vs Q E hr he hb hv (h _ _ _ _ hs)⟩
section
variable {X:Cx} {pins:List (Addr×Obj)} {σ:St} {H:Hp} {s s':Shared}
theorem Inv.env0 (I:Inv X pins σ H s):Env0 X.prog X.w X.K X.mg X.base X.A X.stack s H :=
  ⟨I.ok.frames,I.ok.mod,I.bs,Nat.le_trans I.ok.bsz I.sz,I.stack,I.stkFree,I.hok,I.bare⟩
theorem Inv.after {Q:VK} {u:Value} (I:Inv X pins σ H s) (h:CE X.stack X.prog X.w H s Q u s'):EP X pins σ Q u s':=by
  obtain ⟨v,H',os,bare,un,hok,r,q⟩:=h
  obtain ⟨hh,g,d,t,os'⟩:=s'
  obtain rfl:os'=s.os:=os
  exact ⟨v,H',I.call (h':=hh) (g':=g) (d':=d) (t':=t) (ch:=[]) un hok bare (fun b z=>absurd z (by simp)),r,q⟩
end
def tCall (sp:Sp) (dvs:List V) (E:XK) (t:TA):TE:=fun σ H Q=>t σ H fun vs H1=>sp (vs++dvs) H1 Q E
def Binds (K:PySem.W.Frag) (fd:FuncData) (ps:List Str) (ds:List Value):Prop :=
  ∀ (s:Shared) (us:List Value),K.In s.heap→(us++ds).length=ps.length→BindsTo s fd ⟨us,[]⟩ (ps.zip (us++ds))
theorem Binds.all {K:PySem.W.Frag} {fd:FuncData} {ps:List Str} (h:∀ us:List Value,us.length=ps.length→bindArgs fd ⟨us,[]⟩=pure (ps.zip us)):Binds K fd ps []:=fun s us _ hl=>by
  rw [List.append_nil] at hl ⊢
  exact .of_eq (h us hl)
def Passes (CX:CXT) (X:Cx) (E:XK):Prop:=∀ (pins:List (Addr×Obj)) (σ:St) (H:Hp) (s:Shared) (e:Value) (s':Shared),Inv X pins σ H s→CX X.stack H s E e s'→X.xe e s'
section
variable {X:Cx} {CX:CXT} {k:Nat} {f C:Addr} {fd:FuncData} {ps:List Str} {sp:Sp} {dvs:List V} {ds:List Value} {E:XK} {x m:Str} {p pos apos:Pos} {e o:Expr} {es:List Expr} {ta:TE} {t:TA}
theorem run_fn {pins:List (Addr×Obj)} {σ:St} {H:Hp} {s:Shared} {Q:VK} {us:List Value} {vs:List V} (F:FnOk X.prog X.w X.K X.mg X.base CX k f fd ps sp) (hr:Room k X.A) (hb:Binds X.K fd ps ds) (hd:Vals dvs ds) (hx:Passes CX X E)
    (I:Inv X pins σ H s) (r:Vals vs us) (h:sp (vs++dvs) H Q E):wpAny (model X.prog X.w) X.A (call (.ref f) us) (EP X pins σ Q) X.xe s:=by
  have r2:Vals (vs++dvs) (us++ds):=r.append hd
  have hl:(us++ds).length=ps.length:=by rw [← r2.length]; exact F.len _ _ _ _ h
  refine wpAny_call (codeAny_mono (F.run X.A X.stack s H ⟨us,[]⟩ (us++ds) (vs++dvs) Q E hr I.env0 (hb s us I.kIn hl) r2 h) fun r s' hq=>?_)
  cases r with
  | error e=>exact hx pins σ H s e s' I hq
  | ok fl =>
    cases fl with
    | ret u=>exact I.after hq
    | next=>exact False.elim hq
    | brk=>exact False.elim hq
    | cont=>exact False.elim hq
theorem pe_call (F:FnOk X.prog X.w X.K X.mg X.base CX k f fd ps sp) (hr:Room k X.A) (hg:Gl X x) (hm:X.mg x=some (.ref f)) (hk:PySem.W.keepIn X.K (.ref f)=true) (hb:Binds X.K fd ps ds) (hd:Vals dvs ds) (hx:Passes CX X E)
    (ha:PA X (e::es) t) (hdb:(x==("__debug__" : Str))=false:=by decide) (he:starEach (e::es) X.env=(false,eval e X.env)::starEach es X.env:=by rfl) (hpl:(backTo pos (starEach es X.env)).any (·.1)=false:=by rfl) :
    PE X (.Call (.Name x p) (e::es) [] pos) (tCall sp dvs E t):=by
  intro pins s σ H Q I h
  refine wpAny_Call_Name_kw (ld_glob I hg hm ?_ hdb)
  refine PySem.W.callWith_K (h₀:=X.base) I.ok.mod.kin hk (thn (ha pos pins s σ H _ I h) fun us s1 ⟨vs,H1,I1,r,q⟩=>⟨I1.kIn,?_⟩) he hpl
  exact run_fn F hr hb hd hx I1 r q
structure Mk (K:PySem.W.Frag) (C f:Addr):Prop where
  makes:PySem.W.makesIn K C=true
  init:PySem.W.findIn K (.ref C) "__init__" = some (some (.ref f))
  fn:PySem.W.isFn K (.ref f)=true
  kp:PySem.W.keepIn K (.ref C)=true
end
def PK (X:Cx) (kws:List Keyword) (t:TA):Prop :=
  ∀ (pos:Pos) (pins:List (Addr×Obj)) (s:Shared) (σ:St) (H:Hp) (Q:List V→Hp→Prop),Inv X pins σ H s→t σ H Q→wpAny (model X.prog X.w) X.A (evalAll ((backToKw pos (keywordEach kws X.env)).map (·.2))) (AP X pins σ Q) X.xe s
section
variable {X:Cx} {CX:CXT} {k:Nat} {f C:Addr} {fd:FuncData} {ps ks:List Str} {sp:Sp} {E:XK} {x m:Str} {p pos apos kpos:Pos} {e o:Expr} {es:List Expr} {kws:List Keyword} {te ta:TE} {t tk:TA} {nm:Option Str}
theorem pk_nil:PK X [] tNil:=fun _ _ _ _ H Q I h=>wpAny_evalAll_nil ⟨[],H,I,.nil,h⟩
theorem pk_cons (ha:PE X e te) (hr:PK X kws t):PK X (⟨nm,e,kpos⟩::kws) (tCons te t):=by
  intro pos pins s σ H Q I h
  show wpAny _ _ (evalAll ((do let v ← eval e X.env; standAt pos; pure v)::(backToKw pos (keywordEach kws X.env)).map (·.2))) _ _ s
  refine wpAny_evalAll_cons (wpAny_bind (thn (ha pins s σ H _ I h) fun u s1 ⟨x,H1,I1,r1,q1⟩=>wpAny_bind (wpAny_standAt (wpAny_pure ?_))))
  exact thn (hr pos pins s1 σ H1 _ I1 q1) fun us s2 ⟨xs,H2,I2,r2,q2⟩=>⟨x::xs,H2,I2,.cons r1 r2,q2⟩
structure KBinds (K:PySem.W.Frag) (fd:FuncData) (ps ks:List Str) (g:List Value→List Value→List Value) (gV:List V→List V→List V):Prop where
  to:∀ (s:Shared) (us ws:List Value),K.In s.heap→(g us ws).length=ps.length→BindsTo s fd ⟨us,ks.zip ws⟩ (ps.zip (g us ws))
  rel:∀ {vs:List V} {us:List Value} {zs:List V} {ws:List Value},Vals vs us→Vals zs ws→Vals (gV vs zs) (g us ws)
variable {g:List Value→List Value→List Value} {gV:List V→List V→List V}
end
structure FnScope (N P:List Str) (sc:Scope):Prop where
  kind:sc.kind=.function
  co:sc.isCoroutine=false
  gen:sc.isGenerator=false
  nd:N.Nodup
  pre:N.take P.length=P
  par:∀ x∈P,sc.names.lookup x=some .local∨sc.names.lookup x=some .cell
  nofree:∀ y∈sc.names,y.2≠.free
theorem bindL_out {kindOf:Str→Option NameKind} {x:Str}:∀ {binds:List (Str×Value)} {m:Str→Option Value},(∀ v,(x,v)∉binds)→bindL kindOf binds m x=m x
  | [],_,_=>rfl
  | (n,v)::r,m,h=>by
    unfold bindL
    rw [bindL_out fun w hw=>h w (List.mem_cons_of_mem _ hw)]
    split
    · have:x≠n:=by rintro rfl; exact h v List.mem_cons_self
      simp [this]
    · rfl
theorem bindC_out {kindOf:Str→Option NameKind} {x:Str}:∀ {binds:List (Str×Value)} {m:Str→Option Value},(∀ v,(x,v)∉binds)→bindC kindOf binds m x=m x
  | [],_,_=>rfl
  | (n,v)::r,m,h=>by
    unfold bindC
    rw [bindC_out fun w hw=>h w (List.mem_cons_of_mem _ hw)]
    split
    · rfl
    · have:x≠n:=by rintro rfl; exact h v List.mem_cons_self
      simp [this]
theorem bindL_get {kindOf:Str→Option NameKind} {x:Str} {v:Value}:∀ {P:List Str} {vs:List Value} {i:Nat} {m:Str→Option Value},P.Nodup→P[i]?=some x→vs[i]?=some v→kindOf x=some .local →
    bindL kindOf (P.zip vs) m x=some v
  | [],_,_,_,_,h,_,_=>by simp at h
  | _::_,[],_,_,_,_,h,_=>by simp at h
  | p::P,w::vs,0,m,nd,h1,h2,hk=>by
    simp at h1 h2; subst h1; subst h2
    show bindL kindOf ((p,w)::P.zip vs) m p=_
    unfold bindL
    rw [bindL_out fun v hv=>(List.nodup_cons.mp nd).1 (List.of_mem_zip hv).1,if_pos hk]
    simp
  | p::P,w::vs,i+1,m,nd,h1,h2,hk=>by
    show bindL kindOf ((p,w)::P.zip vs) m x=_
    unfold bindL
    exact bindL_get (i:=i) (List.nodup_cons.mp nd).2 (by simpa using h1) (by simpa using h2) hk
theorem bindC_get {kindOf:Str→Option NameKind} {x:Str} {v:Value}:∀ {P:List Str} {vs:List Value} {i:Nat} {m:Str→Option Value},P.Nodup→P[i]?=some x→vs[i]?=some v→kindOf x≠some .local →
    bindC kindOf (P.zip vs) m x=some v
  | [],_,_,_,_,h,_,_=>by simp at h
  | _::_,[],_,_,_,_,h,_=>by simp at h
  | p::P,w::vs,0,m,nd,h1,h2,hk=>by
    simp at h1 h2; subst h1; subst h2
    show bindC kindOf ((p,w)::P.zip vs) m p=_
    unfold bindC
    rw [bindC_out fun v hv=>(List.nodup_cons.mp nd).1 (List.of_mem_zip hv).1,if_neg hk]
    simp
  | p::P,w::vs,i+1,m,nd,h1,h2,hk=>by
    show bindC kindOf ((p,w)::P.zip vs) m x=_
    unfold bindC
    exact bindC_get (i:=i) (List.nodup_cons.mp nd).2 (by simpa using h1) (by simpa using h2) hk
def start (N:List Str) (vs:List V):St:=vs.map some++List.replicate (N.length-vs.length) none
def cxOf (CX:CXT) (P:Program) (w:World) (K:PySem.W.Frag) (mg:Str→Option Value) (base:Heap) (N:List Str) (qual:Str) (scope:Scope) (f:Addr) (cd:Value) (A:Around) (outer:List Env) (s:Shared) (H:Hp) (E:XK):Cx where
  prog:=P
  w:=w
  K:=K
  mg:=mg
  base:=base
  A:=A.deeper (envOfC qual scope s.heap.objs.size f cd)
  N:=N
  s₀:=s
  H₀:=H
  env:=envOfC qual scope s.heap.objs.size f cd
  outer:=outer
  stack:=envOfC qual scope s.heap.objs.size f cd::outer
  ex:=[]
  calm:=true
  fn:=fun _=>true
  pn:=[]
  xe:=fun e s'=>wpAny (model P w) (A.deeper (envOfC qual scope s.heap.objs.size f cd)) (leaving (envOfC qual scope s.heap.objs.size f cd) e) (fun _ s''=>CX outer H s E e s'') (fun e' s''=>CX outer H s E e' s'') s'
theorem cell_has {sc:Scope} {n:Nat} {x:Str} (h:sc.names.lookup x=some .cell):∃ c,(cellsFrom n sc.names []).lookup x=some c:=by
  have q:=PySem.W.cellsFrom_some sc.names n [] (.inl h)
  exact Option.isSome_iff_exists.mp q
theorem inv_start {CX:CXT} {P:Program} {w:World} {K:PySem.W.Frag} {mg:Str→Option Value} {base:Heap} {N ps:List Str} {qual:Str} {scope:Scope} {f:Addr} {cd:Value} {A:Around} {outer:List Env} {s s1:Shared} {H:Hp} {E:XK} {us:List Value} {vs:List V}
    (S:FnScope N ps scope) (hd:A.handled=none) (e0:Env0 P w K mg base A outer s H) (hl:vs.length=ps.length) (r:Vals vs us)
    (x:InCallC s s.heap.objs.size (bindL (envOfC qual scope s.heap.objs.size f cd).kindOf (ps.zip us) fun _=>none) (cellsFrom (s.heap.objs.size+1) scope.names []) (bindC (envOfC qual scope s.heap.objs.size f cd).kindOf (ps.zip us) fun _=>none) s1) :
    Inv (cxOf CX P w K mg base N qual scope f cd A outer s H E) [] (start N vs) H s1:=by
  have hpl:ps.length≤N.length:=by have:=congrArg List.length S.pre; rw [List.length_take] at this; omega
  obtain ⟨h1,tk,rfl,hk⟩:=x.done
  have noA:∀ b:Addr,b∉(cxOf CX P w K mg base N qual scope f cd A outer s H E).ex:=fun b z=>absurd (show b∈([]:List Addr) from z) (by simp)
  refine ⟨⟨e0.mod,S.kind,rfl,rfl,Nat.le_refl _,fun y z c h1 h2=>?_,fun y hy=>?_,fun y c _ h=>?_,fun _=>hd,Around.frames_deeper e0.frames,.inr ⟨rfl,rfl⟩,fun b z=>absurd z (noA b),e0.bs,e0.bsz,fun b _ _=>noA b,fun b z=>absurd z (noA b),e0.funs,e0.frf⟩,
    rfl,e0.bare,Un.kept hk,⟨_,x.toInCall.ns,fun i y v h1 h2 h3=>?_⟩,fun y c h=>⟨_,x.cell y c h⟩,e0.hok.fresh (Nat.le_refl _),fun y c h=>?_,fun p hp=>absurd (show p∈([]:List (Addr×Obj)) from hp) (by simp),e0.hok.kept hk,?_⟩
  · exact name_of_addr x.apart (PySem.mem_of_lookup h1) (PySem.mem_of_lookup h2)
  · have hy:scope.names.lookup y=some .cell∨scope.names.lookup y=some .free:=hy
    rcases hy with hy | hy
    · exact cell_has hy
    · exact absurd rfl (S.nofree _ (PySem.mem_of_lookup hy))
  · exact Nat.le_of_lt (x.above y c (PySem.mem_of_lookup h))
  · have hi:i<vs.length:=by
      unfold start at h2
      by_cases hi:i<vs.length
      · exact hi
      · rw [List.getElem?_append_right (by simpa using hi)] at h2
        rw [List.getElem?_replicate] at h2
        split at h2 <;> cases h2
    have ha:vs[i]?=some v:=by
      unfold start at h2
      rw [List.getElem?_append_left (by simpa using hi),List.getElem?_map] at h2
      cases e:vs[i]? with
      | none=>rw [e] at h2; cases h2
      | some a=>rw [e] at h2; cases h2; rfl
    obtain ⟨u,hu,rv⟩:=r.get ha
    have hp:ps[i]?=some y:=by
      rw [← S.pre,List.getElem?_take_of_lt (by omega)]; exact h1
    have ndP:ps.Nodup:=by rw [← S.pre]; exact S.nd.sublist (List.take_sublist _ _)
    refine ⟨u,rv,?_⟩
    rcases S.par y (List.mem_of_getElem? hp) with k | k
    · exact .inl ⟨k,bindL_get ndP hp hu k⟩
    · obtain ⟨c,e⟩:=cell_has (n:=s.heap.objs.size+1) k
      refine .inr ⟨.inl k,c,e,?_⟩
      have q:=x.cell y c e
      rw [bindC_get ndP hp hu (by show scope.names.lookup y≠_; rw [k]; decide)] at q
      exact q
  · exact e0.hok.fresh (Nat.le_of_lt (x.above y c (PySem.mem_of_lookup h)))
  · unfold start
    show _=N.length
    rw [List.length_append,List.length_map,List.length_replicate]
    omega
theorem fn_of {CX:CXT} {P:Program} {w:World} {K:PySem.W.Frag} {mg:Str→Option Value} {base:Heap} {k:Nat} {f:Addr} {name qual:Str} {params:Arguments} {body:List Stmt} {scope:Scope} {dV kV doc pm cdv ct oc:Value} {an od:Option Addr}
    {osl:Array (Option Value)} {N ps:List Str} {sp:Sp} (lk:K.lookup f=some ⟨oc,od,.func (PySem.W.fnOf name qual params body scope dV kV doc pm an cdv ct),osl⟩) (hcd:PySem.W.codeIn K cdv qual=true) (S:FnScope N ps scope)
    (len:∀ vs H Q E,sp vs H Q E→vs.length=ps.length)
    (hbody:∀ (A:Around) (outer:List Env) (s:Shared) (H:Hp) (vs:List V) (Q:VK) (E:XK),Room k (A.deeper (envOfC qual scope s.heap.objs.size f cdv))→sp vs H Q E →
      ∃ t,PSs (cxOf CX P w K mg base N qual scope f cdv A outer s H E) body t∧t { nx:=fun _ H'=>Q .non H',rt:=Q } (start N vs) H) :
    FnOk P w K mg base CX (k+1) f (PySem.W.fnOf name qual params body scope dV kV doc pm an cdv ct) ps sp:=by
  refine ⟨len,fun A outer s H args us vs Q E hr e0 hb r hsp=>?_⟩
  have hl:=len _ _ _ _ hsp
  have KX:K.In s.heap:=e0.mod.kin.keeps fun b o e=>(e0.bs b o e).1
  have lim:s.heap.NoLimit:=e0.mod.nolimit.keeps fun b o e=>(e0.bs b o e).1
  have hkind:∀ y∈ps.zip us,scope.names.lookup y.1=some .local∨(scope.names.lookup y.1=some .cell∧((cellsFrom (s.heap.objs.size+1) scope.names []).lookup y.1).isSome=true):=fun ⟨n,v⟩ hy=>by
    rcases S.par n (List.of_mem_zip hy).1 with q | q
    · exact .inl q
    · exact .inr ⟨q,PySem.W.cellsFrom_some _ _ _ (.inl q)⟩
  refine codeAny_call_function hr.depth (KX _ _ lk) rfl S.co S.gen rfl (PySem.W.codeRec_of KX hcd) (hb _ _ _ _ ?_)
  refine wpAny_newFunctionEnv_cells S.kind hkind fun env he s1 x=>?_
  subst he
  refine ⟨lim.keeps x.toInCall.keep,codeAny_func ?_⟩
  obtain ⟨t,ht,hq⟩:=hbody A outer s H vs Q E (hr.deeper _) hsp
  have I:Inv (cxOf CX P w K mg base N qual scope f cdv A outer s H E) [] (start N vs) H s1:=inv_start S hr.hd e0 hl r x
  refine wpAny_mono (ht [] s1 (start N vs) H _ I hq) (fun fl s' hs=>?_) fun e s' hs=>hs
  have fin:∀ {σ':St} {H':Hp} {v:V} {u:Value},Inv (cxOf CX P w K mg base N qual scope f cdv A outer s H E) [] σ' H' s'→RelV v u→Q v H'→CE outer P w H s Q u s' :=
    fun {σ' H' v u} J rv q=>⟨v,H',J.os,J.bare,J.base,J.hok,rv,q⟩
  cases fl with
  | ret u =>
    obtain ⟨v,σ',H',J,rv,q⟩:=hs
    exact fin J rv q
  | next =>
    obtain ⟨σ',H',J,q⟩:=hs
    exact fin (v:=V.non) (u:=Value.none) J rfl q
  | brk =>
    obtain ⟨_,_,_,q⟩:=hs
    exact False.elim q
  | cont =>
    obtain ⟨_,_,_,q⟩:=hs
    exact False.elim q
end L2
namespace L2
open PySem PySem.Spec PyProof.Rows
section
variable {X:Cx} {x:Str} {p pos:Pos} {e:Expr} {es:List Expr} {t:TA} {id T:String} {r:List V→Hp→VK→Prop}
def tCB (r:List V→Hp→VK→Prop) (t:TA):TE:=fun σ H Q=>t σ H fun vs H1=>r vs H1 Q
theorem pe_callB (hc:CallR X (.builtin id) r) (hg:Gl X x) (hm:X.mg x=none) (hv:bootBuiltins x=some (.builtin id)) (ha:PA X (e::es) t) (hn:x ≠ "__name__" := by decide) (hdb:(x==("__debug__" : Str))=false:=by decide)
    (he:starEach (e::es) X.env=(false,eval e X.env)::starEach es X.env:=by rfl) (hpl:(backTo pos (starEach es X.env)).any (·.1)=false:=by rfl):PE X (.Call (.Name x p) (e::es) [] pos) (tCB r t):=by
  intro pins s σ H Q I h
  refine wpAny_Call_Name_kw (ld_blt I hg hm hv ?_ hn hdb)
  exact PyProof.Rows.callWith_builtin1 (thn (ha pos pins s σ H _ I h) fun us s1 ⟨vs,H1,I1,r1,q1⟩=>hc pins s1 σ H1 vs us Q I1 r1 q1) he hpl
theorem pe_callTy (hc:CallR X (.type T) r) (hg:Gl X x) (hm:X.mg x=none) (hv:bootBuiltins x=some (.type T)) (ha:PA X (e::es) t) (hn:x ≠ "__name__" := by decide) (hdb:(x==("__debug__" : Str))=false:=by decide)
    (he:starEach (e::es) X.env=(false,eval e X.env)::starEach es X.env:=by rfl) (hpl:(backTo pos (starEach es X.env)).any (·.1)=false:=by rfl):PE X (.Call (.Name x p) (e::es) [] pos) (tCB r t):=by
  intro pins s σ H Q I h
  refine wpAny_Call_Name_kw (ld_blt I hg hm hv ?_ hn hdb)
  exact PyProof.Rows.callWith_type1 (thn (ha pos pins s σ H _ I h) fun us s1 ⟨vs,H1,I1,r1,q1⟩=>hc pins s1 σ H1 vs us Q I1 r1 q1) he hpl
end
end L2
namespace HT
open PySem PyProof.Rows
def lexLt:List Int→List Int→Bool
  | [],[]=>false
  | [],_::_=>true
  | _::_,[]=>false
  | x::xs,y::ys=>if x=y then lexLt xs ys else decide (x<y)
section
open PySem.SeqAt
open PySem.AutoSeq1 (wpAny_loadPart')
open PySem.MeetsSeq PySem.MeetsSeq2 PySem.MeetsSeq3
end
section
variable {prog:Program} {w:World} {A:Around} {E:Value→Shared→Prop} {s:Shared}
end
end HT
namespace L2
open PySem PySem.Spec PyProof.Rows
abbrev TO:=St→Hp→(Option Int→Hp→Prop)→Prop
theorem intsAre_of {ns:List Int}:∀ {us:List Value},Vals (ns.map V.int) us→IntsAre us ns:=by
  induction ns with
  | nil=>intro us r; rw [List.map_nil] at r; cases r; exact .nil
  | cons n ns ih =>
    intro us r
    rw [List.map_cons] at r
    cases r with
    | cons r1 r2 =>
      obtain ⟨t,e⟩:=r1
      subst e
      exact .cons n t (ih r2)
section
variable {X:Cx} {e:Expr} {te:TE} {lo hi:Option Expr} {tl th:TO} {pos p2:Pos}
end
end L2
namespace L2
open PySem PySem.Spec PyProof.Rows
def ixN (n:Nat) (i:Int):Option Nat:=if 0≤i then (if i<n then some i.toNat else none) else if -(n:Int)≤i then some (i+n).toNat else none
def atI {α:Type} (xs:List α) (i:Int):Option α:=(ixN xs.length i).bind fun j=>xs[j]?
theorem ixN_seq {n:Nat} {i:Int} {j:Nat} (h:ixN n i=some j):seqIndex? i n=some j∧j<n∧-(n:Int)≤i∧i<n:=by
  unfold ixN at h
  by_cases h0:0≤i
  · rw [if_pos h0] at h
    by_cases h1:i<n
    · rw [if_pos h1] at h
      have e:i.toNat=j:=Option.some.inj h
      exact ⟨by rw [seqIndex_of h0 h1,e],by omega,by omega,h1⟩
    · rw [if_neg h1] at h; cases h
  · rw [if_neg h0] at h
    by_cases h1:-(n:Int)≤i
    · rw [if_pos h1] at h
      have e:(i+n).toNat=j:=Option.some.inj h
      exact ⟨by rw [seqIndex_neg (by omega) h1,e],by omega,h1,by omega⟩
    · rw [if_neg h1] at h; cases h
theorem atI_get {α:Type} {xs:List α} {i:Int} {v:α} (h:atI xs i=some v):∃ j,seqIndex? i xs.length=some j∧xs[j]?=some v∧j<xs.length∧-(xs.length:Int)≤i∧i<xs.length:=by
  unfold atI at h
  cases e:ixN xs.length i with
  | none=>rw [e] at h; cases h
  | some j =>
    rw [e] at h
    obtain ⟨h1,h2,h3,h4⟩:=ixN_seq e
    exact ⟨j,h1,h,h2,h3,h4⟩
def PlainIx (b:Expr):Prop:=∀ o i,subscripted b false o i=operate [o,i] (getItem o i)
def IxR (X:Cx) (r:R2):Prop :=
  ∀ (value slice:Expr) (pins:List (Addr×Obj)) (s:Shared) (σ:St) (H:Hp) (x y:V) (v u:Value) (Q:VK),Inv X pins σ H s→RelV x v→RelV y u→r x y H Q →
    subscripted slice false v u=operate [v,u] (getItem v u)→wpAny (model X.prog X.w) X.A (subscriptTail value slice v u) (EP X pins σ Q) X.xe s
def MtR (X:Cx) (id:String) (r:V→List V→Hp→VK→Prop):Prop :=
  ∀ (pins:List (Addr×Obj)) (s:Shared) (σ:St) (H:Hp) (x:V) (xs:List V) (v:Value) (us:List Value) (Q:VK),Inv X pins σ H s→RelV x v→Vals xs us→r x xs H Q →
    wpAny (model X.prog X.w) X.A (call (.builtin id) (v::us)) (EP X pins σ Q) X.xe s
section
variable {X:Cx} {a b:Expr} {ta tb:TE} {pos:Pos}
theorem IxR.or {r r':R2} (h:IxR X r) (h':IxR X r'):IxR X (fun x y H Q=>r x y H Q∨r' x y H Q):=by
  intro value slice pins s σ H x y v u Q I rx ry q hs
  rcases q with q | q
  · exact h value slice pins s σ H x y v u Q I rx ry q hs
  · exact h' value slice pins s σ H x y v u Q I rx ry q hs
theorem pe_ix {r:R2} (hr:IxR X r) (ha:PE X a ta) (hb:PE X b tb) (hs:PlainIx b):PE X (.Subscript a b pos) (tOp r ta tb):=by
  intro pins s σ H Q I h
  exact Subscript_ (binT ha hb I h fun v u s2 x y H2 I2 rx ry q=>hr a b pins s2 σ H2 x y v u Q I2 rx ry q (hs _ _))
def rIxL (K:PySem.W.Frag):R2:=fun x y H Q=>∃ p xs i v,x=.ref p∧y=.int i∧SqL K H p xs∧atI xs i=some v∧Q v H
def rIxT (K:PySem.W.Frag):R2:=fun x y H Q=>∃ p xs i v,x=.ref p∧y=.int i∧SqT K H p xs∧atI xs i=some v∧Q v H
def rIxS:R2:=fun x y H Q=>∃ z i c,x=.str z∧y=.int i∧z.length≤sizeLine∧atI z.cps.toList i=some c∧Q (.str ⟨#[c]⟩) H
theorem ix_list:IxR X (rIxL X.K):=by
  intro value slice pins s σ H x y v u Q I rx ry h hs
  obtain ⟨p,xs,i,z,rfl,rfl,hq,he,q⟩:=h
  cases rx
  obtain ⟨t,rfl⟩:=ry
  obtain ⟨its,r,pl,hz⟩:=I.list hq
  obtain ⟨j,h1,h2,h3,h4,h5⟩:=atI_get he
  obtain ⟨w,ew,rw'⟩:=r.get h2
  have hl:=r.length
  have hn:=line63
  have fin:EP X pins σ Q w s:=⟨z,H,I,rw',q⟩
  by_cases h0:0≤i
  · have hj:i.toNat=j:=by
      rw [seqIndex_of h0 h5] at h1
      exact Option.some.inj h1
    exact item_listR pl.isList h0 (by omega) (by rw [hj]; simpa using ew) fin hs
  · have hj:(i+(its.toArray.size:Int)).toNat=j:=by
      rw [seqIndex_neg (by omega) h4] at h1
      rw [List.size_toArray,← hl]
      exact Option.some.inj h1
    exact subscriptTail_builtinR (x:=w) pl.isList.typeIs slot_list_getitem.lookup
      (wpAny_getItem_list_neg (Q:=fun r s'=>r=w∧EP X pins σ Q r s') pl.isList (by omega) (by rw [List.size_toArray] <;> omega) (by omega) (by rw [hj]; simpa using ew) ⟨rfl,fin⟩) hs
theorem ix_tup:IxR X (rIxT X.K):=by
  intro value slice pins s σ H x y v u Q I rx ry h hs
  obtain ⟨p,xs,i,z,rfl,rfl,hq,he,q⟩:=h
  cases rx
  obtain ⟨t,rfl⟩:=ry
  obtain ⟨its,r,pl,hz⟩:=I.tuple hq
  obtain ⟨j,h1,h2,h3,h4,h5⟩:=atI_get he
  obtain ⟨w,ew,rw'⟩:=r.get h2
  have hl:=r.length
  have hn:=line63
  have fin:EP X pins σ Q w s:=⟨z,H,I,rw',q⟩
  exact subscriptTail_builtinR (x:=w) pl.typeIs slot_tuple_getitem.lookup
    (getItem_tuple (j:=j) (Q:=fun r s'=>r=w∧EP X pins σ Q r s') pl (by omega) (by omega) (by rw [List.size_toArray,← hl]; exact h1) (by simpa using ew) ⟨rfl,fin⟩) hs
theorem ix_str:IxR X rIxS:=by
  intro value slice pins s σ H x y v u Q I rx ry h hs
  obtain ⟨z,i,c,rfl,rfl,hz,he,q⟩:=h
  obtain ⟨t,rfl⟩:=rx
  obtain ⟨t',rfl⟩:=ry
  obtain ⟨j,h1,h2,h3,h4,h5⟩:=atI_get he
  have hl:z.cps.toList.length=z.length:=by simp [Str.length]
  rw [hl] at h1 h4 h5
  have hn:=line63
  exact tail_any (typeIs_str s z t) slot_str_getitem.lookup (getItem_str (c:=c) (by
    have e1:decide (i < -(2 ^ 63:Int))=false:=decide_eq_false (by omega)
    have e2:decide (i ≥ 2 ^ 63)=false:=decide_eq_false (by omega)
    rw [e1,e2,Bool.or_false]) (by rw [h1]; simpa using h2) ⟨.str ⟨#[c]⟩,H,I.tok _,⟨_,rfl⟩,q⟩) hs
def rIx (K:PySem.W.Frag):R2:=fun x y H Q=>rIxL K x y H Q∨rIxT K x y H Q∨rIxS x y H Q
theorem ix_seq:IxR X (rIx X.K):=ix_list.or (ix_tup.or ix_str)
theorem mapSeq_set (its:List Value) (n j:Nat) (u:Value):Obj.mapSeq (·.setIfInBounds j u) { cls:=.type "list", data:=.seq its.toArray n }={ cls:=.type "list", data:=.seq (its.set j u).toArray n }:=by
  simp [Obj.mapSeq]
theorem Inv.lst {pins:List (Addr×Obj)} {σ:St} {H:Hp} {s:Shared} {p:Addr} {xs:List V} (I:Inv X pins σ H s) (h:H p=some (.lst xs)) :
    ∃ (its:List Value) (n:Nat),Vals xs its∧s.heap.get? p=some { cls:=.type "list", data:=.seq its.toArray n }∧xs.length≤sizeLine:=by
  obtain ⟨z,its,n,r,e⟩:=I.hok p _ h
  exact ⟨its,n,r,e,z⟩
theorem Inv.lstUpd {pins:List (Addr×Obj)} {σ:St} {H:Hp} {s:Shared} {p:Addr} {xs ys:List V} {its its':List Value} {n n':Nat} {f:Obj→Obj} (I:Inv X pins σ H s) (h:H p=some (.lst xs))
    (ho:s.heap.get? p=some { cls:=.type "list", data:=.seq its.toArray n }) (hf:f { cls:=.type "list", data:=.seq its.toArray n }={ cls:=.type "list", data:=.seq its'.toArray n' }) (r:Vals ys its') (hz:ys.length≤sizeLine) (t:Nat) :
    Inv X pins σ (upd H p (.lst ys)) { s with heap:=s.heap.update p f,toks:=t }:=by
  have e:(s.heap.update p f).get? p=some { cls:=.type "list", data:=.seq its'.toArray n' }:=by
    rw [Heap.get?_update_self f ho (by rw [hf] <;> rfl),hf]
  refine I.write (x:=p) (e:=p) (by rw [h]; trivial) (.inl rfl) (fun b u hb q=>(Heap.get?_update_other _ _ (Ne.symm hb)).trans q) ⟨_,e⟩ ?_
  exact ⟨hz,its',n',r,e⟩
def rSetL:V→V→V→Hp→(Hp→Prop)→Prop:=fun o i v H Q=>∃ p xs k j,o=.ref p∧i=.int k∧H p=some (.lst xs)∧ixN xs.length k=some j∧Q (upd H p (.lst (xs.set j v)))
theorem set_list:PSet X rSetL:=by
  intro pins s σ H o i v ov iv u Q I ro ri rv h
  obtain ⟨p,xs,k,j,rfl,rfl,hp,hj,q⟩:=h
  cases ro
  obtain ⟨t,rfl⟩:=ri
  obtain ⟨its,n,r,ho,hz⟩:=I.lst hp
  obtain ⟨h1,h2,h3,h4⟩:=ixN_seq hj
  have hl:=r.length
  have hn:=line63
  have I':Inv X pins σ (upd H p (.lst (xs.set j v))) { s with heap:=s.heap.update p (Obj.mapSeq (·.setIfInBounds j u)) } :=
    I.lstUpd hp ho (mapSeq_set its n j u) (r.set rv j) (by rw [List.length_set]; exact hz) s.toks
  by_cases h0:0≤k
  · have hk:k.toNat=j:=by
      rw [seqIndex_of h0 h4] at h1
      exact Option.some.inj h1
    exact PySem.W.ki_setAt ho h0 (by omega) (by rw [List.size_toArray,← hl]; exact h4) (by rw [hk]; exact ⟨_,I',q⟩)
  · have hk:(k+(its.toArray.size:Int)).toNat=j:=by
      rw [seqIndex_neg (by omega) h3] at h1
      rw [List.size_toArray,← hl]
      exact Option.some.inj h1
    exact PySem.W.ki_setBack ho (by omega) (by rw [List.size_toArray,← hl]; exact h3) (by omega) (by rw [hk]; exact ⟨_,I',q⟩)
def flatV:V→Bool
  | .non=>true
  | .bl _=>true
  | .int _=>true
  | .str _=>true
  | _=>false
def eqV:V→V→Bool
  | .non,.non=>true
  | .bl a,.bl b=>a==b
  | .bl a,.int b=>(if a then 1 else 0)==b
  | .int a,.bl b=>a==(if b then 1 else 0)
  | .int a,.int b=>a==b
  | .str a,.str b=>a==b
  | _,_=>false
theorem eqAt_V {A:Around} {s:Shared} {y x:V} {u v:Value} (ry:RelV y u) (rx:RelV x v) (fy:flatV y=true) (fx:flatV x=true):SeqAt.EqAt A s u v (eqV y x):=by
  cases y with
  | non =>
    cases ry
    cases x with
    | non=>cases rx; exact SeqAt.EqAt.same _
    | bl b=>cases rx; exact SeqAt.EqAt.none_bool b
    | int b=>obtain ⟨t,rfl⟩:=rx; exact SeqAt.EqAt.none_int b t
    | str b=>obtain ⟨t,rfl⟩:=rx; exact SeqAt.EqAt.none_str b t
    | _=>exact absurd (show false=true from fx) Bool.false_ne_true
  | bl a =>
    cases ry
    cases x with
    | non=>cases rx; exact SeqAt.EqAt.bool_none a
    | bl b=>cases rx; exact SeqAt.EqAt.bool_bool a b
    | int b=>obtain ⟨t,rfl⟩:=rx; exact SeqAt.EqAt.bool_int a b t
    | str b=>obtain ⟨t,rfl⟩:=rx; exact SeqAt.EqAt.bool_str a b t
    | _=>exact absurd (show false=true from fx) Bool.false_ne_true
  | int a =>
    obtain ⟨t',rfl⟩:=ry
    cases x with
    | non=>cases rx; exact SeqAt.EqAt.int_none a t'
    | bl b=>cases rx; exact SeqAt.EqAt.int_bool a t' b
    | int b=>obtain ⟨t,rfl⟩:=rx; exact SeqAt.EqAt.int_int a t' b t
    | str b=>obtain ⟨t,rfl⟩:=rx; exact SeqAt.EqAt.int_str a t' b t
    | _=>exact absurd (show false=true from fx) Bool.false_ne_true
  | str a =>
    obtain ⟨t',rfl⟩:=ry
    cases x with
    | non=>cases rx; exact SeqAt.EqAt.str_none a t'
    | bl b=>cases rx; exact SeqAt.EqAt.str_bool a t' b
    | int b=>obtain ⟨t,rfl⟩:=rx; exact SeqAt.EqAt.str_int a t' b t
    | str b=>obtain ⟨t,rfl⟩:=rx; exact SeqAt.EqAt.str_str a t' b t
    | _=>exact absurd (show false=true from fx) Bool.false_ne_true
  | _=>exact absurd (show false=true from fy) Bool.false_ne_true
def eqU (x:V) (u:Value):Bool:=match u with
  | .none=>eqV .non x
  | .bool b=>eqV (.bl b) x
  | .int i _=>eqV (.int i) x
  | .str z _=>eqV (.str z) x
  | _=>false
theorem eqU_of {x y:V} {u:Value} (r:RelV y u) (f:flatV y=true):eqU x u=eqV y x:=by
  cases y with
  | non=>cases r; rfl
  | bl b=>cases r; rfl
  | int i=>obtain ⟨t,rfl⟩:=r; rfl
  | str z=>obtain ⟨t,rfl⟩:=r; rfl
  | _=>exact absurd (show false=true from f) Bool.false_ne_true
theorem any_eqU {x:V}:∀ {xs:List V} {us:List Value},Vals xs us→xs.all flatV=true→us.any (eqU x)=xs.any fun y=>eqV y x
  | _,_,.nil,_=>rfl
  | y::xs,u::us,.cons r t,f=>by
    rw [List.all_cons,Bool.and_eq_true] at f
    rw [List.any_cons,List.any_cons,eqU_of r f.1,any_eqU t f.2]
theorem mem_eqAt {A:Around} {s:Shared} {x:V} {v:Value} (rx:RelV x v) (fx:flatV x=true):∀ {xs:List V} {us:List Value},Vals xs us→xs.all flatV=true→∀ u∈us,SeqAt.EqAt A s u v (eqU x u)
  | _,_,.nil,_=>fun u hu=>by cases hu
  | y::xs,u::us,.cons r t,f=>fun u' hu=>by
    rw [List.all_cons,Bool.and_eq_true] at f
    rcases List.mem_cons.mp hu with rfl | hu
    · rw [eqU_of r f.1]; exact eqAt_V r rx f.1 fx
    · exact mem_eqAt rx fx t f.2 u' hu
def inV (x:V) (xs:List V):Bool:=xs.any fun y=>eqV y x
def rIn (K:PySem.W.Frag) (neg:Bool):R2:=fun x y H Q=>∃ p xs,y=.ref p∧(SqL K H p xs∨SqT K H p xs)∧flatV x=true∧xs.all flatV=true∧Q (.bl (if neg then !inV x xs else inV x xs)) H
theorem op_in_seq:OpR X (compareOp .In) (rIn X.K false):=by
  intro pins s σ H x y v u Q I rx ry h
  obtain ⟨p,xs,rfl,hq,fx,fs,q⟩:=h
  cases ry
  rcases hq with hq | hq
  · obtain ⟨its,r,pl,hz⟩:=I.list hq
    refine SeqAt.in_listAt (eqU x) pl.isList (fun w hw=>mem_eqAt rx fx r fs w (by simpa using hw)) ⟨.bl _,H,I,rfl,?_⟩
    rw [show its.toArray.any (eqU x)=its.any (eqU x) by simp,any_eqU r fs]
    exact q
  · obtain ⟨its,r,pl,hz⟩:=I.tuple hq
    refine SeqAt.in_tupleAt (eqU x) pl (fun w hw=>mem_eqAt rx fx r fs w (by simpa using hw)) ⟨.bl _,H,I,rfl,?_⟩
    rw [show its.toArray.any (eqU x)=its.any (eqU x) by simp,any_eqU r fs]
    exact q
theorem op_notIn_seq:OpR X (compareOp .NotIn) (rIn X.K true):=by
  intro pins s σ H x y v u Q I rx ry h
  obtain ⟨p,xs,rfl,hq,fx,fs,q⟩:=h
  cases ry
  rcases hq with hq | hq
  · obtain ⟨its,r,pl,hz⟩:=I.list hq
    refine SeqAt.notIn_listAt (eqU x) pl.isList (fun w hw=>mem_eqAt rx fx r fs w (by simpa using hw)) ⟨.bl _,H,I,rfl,?_⟩
    rw [show its.toArray.any (eqU x)=its.any (eqU x) by simp,any_eqU r fs]
    exact q
  · obtain ⟨its,r,pl,hz⟩:=I.tuple hq
    refine SeqAt.notIn_tupleAt (eqU x) pl (fun w hw=>mem_eqAt rx fx r fs w (by simpa using hw)) ⟨.bl _,H,I,rfl,?_⟩
    rw [show its.toArray.any (eqU x)=its.any (eqU x) by simp,any_eqU r fs]
    exact q
theorem CallR.or {f:Value} {r r':List V→Hp→VK→Prop} (h:CallR X f r) (h':CallR X f r'):CallR X f (fun xs H Q=>r xs H Q∨r' xs H Q):=by
  intro pins s σ H xs us Q I rs q
  rcases q with q | q
  · exact h pins s σ H xs us Q I rs q
  · exact h' pins s σ H xs us Q I rs q
theorem call_list_of:CallR X (.type "list") (fun xs H Q=>∃ p ys,xs=[.ref p]∧(SqL X.K H p ys∨SqT X.K H p ys)∧∀ l,H l=none→Q (.ref l) (upd H l (.lst ys))):=by
  intro pins s σ H xs us Q I r h
  obtain ⟨p,ys,rfl,hq,q⟩:=h
  obtain ⟨u,rfl,rx⟩:=vals1 r
  cases rx
  have fin:∀ (its:List Value),Vals ys its→ys.length≤sizeLine→∀ (h':Heap) (c':Nat),(∀ b o',s.heap.get? b=some o'→h'.get? b=some o') →
      h'.get? s.heap.objs.size=some { cls:=.type "list", dict:=none,data:=.seq its.toArray c',slots:=#[] }→EP X pins σ Q (.ref s.heap.objs.size) { s with heap:=h' }:=fun its r' hz h' c' kp e =>
    ⟨.ref s.heap.objs.size,_,I.laid (t':=s.toks) kp (Nat.le_refl _) (show ObjOk X.prog X.w _ h' _ (.lst ys) from ⟨hz,its,c',r',e⟩),rfl,q _ (I.hok.fresh (Nat.le_refl _))⟩
  rcases hq with hq | hq
  · obtain ⟨its,r',pl,hz⟩:=I.list hq
    have hlen:=r'.length
    obtain ⟨o,ho,hc,n,hd⟩:=pl.isList
    exact call_list_seq p (.inl rfl) ho hc hd (fun h' c' kp e=>fin its r' hz h' c' kp e) (by simp only [List.size_toArray] <;> omega)
  · obtain ⟨its,r',pl,hz⟩:=I.tuple hq
    have hlen:=r'.length
    obtain ⟨o,ho,hc,n,hd⟩:=pl
    exact call_list_seq p (.inr rfl) ho hc hd (fun h' c' kp e=>fin its r' hz h' c' kp e) (by simp only [List.size_toArray] <;> omega)
def tyV (K:PySem.W.Frag) (T:String) (x:V) (H:Hp):Prop:=match x with
  | .str _=>T = "str"
  | .int _=>T = "int"
  | .ref p=>(T = "list" ∧ ∃ xs,SqL K H p xs)∨(T = "tuple" ∧ ∃ o,K.lookup p=some o∧o.cls=.type "tuple" ∧ o.dict=none) ∨
      (T = "dict" ∧ ((∃ kvs,H p=some (.dK kvs))∨∃ kvs,H p=some (.dT kvs)))∨(T = "set" ∧ ∃ S n,H p=some (.set S n))
  | _=>False
theorem tyV_is {pins:List (Addr×Obj)} {σ:St} {H:Hp} {s:Shared} {T:String} {x:V} {v:Value} (I:Inv X pins σ H s) (r:RelV x v) (ty:tyV X.K T x H) :
    s.TypeIs v T∧∀ a,v=.ref a→∃ ob,s.heap.get? a=some ob∧ob.dict=none:=by
  cases x with
  | str z =>
    obtain ⟨t,rfl⟩:=r
    cases (show T = "str" from ty)
    exact ⟨typeIs_str s z t,fun _ e=>nomatch e⟩
  | int i =>
    obtain ⟨t,rfl⟩:=r
    cases (show T = "int" from ty)
    exact ⟨typeIs_int s i t,fun _ e=>nomatch e⟩
  | ref p =>
    cases r
    rcases ty with ⟨rfl,xs,hq⟩ | ⟨rfl,o,hk,hc,hd⟩ | ⟨rfl,hk⟩ | ⟨rfl,S,n,hk⟩
    · obtain ⟨its,_,pl,_⟩:=I.list hq
      refine ⟨pl.isList.typeIs,fun a e=>?_⟩
      cases e
      obtain ⟨o,n,e,c,hd,_⟩:=pl
      exact ⟨o,e,hd⟩
    · refine ⟨⟨o,I.kIn p o hk,hc⟩,fun a e=>?_⟩
      cases e
      exact ⟨o,I.kIn _ o hk,hd⟩
    · have z:∃ o,s.heap.get? p=some o∧o.ExactDict:=by
        rcases hk with ⟨kvs,hk⟩ | ⟨kvs,hk⟩
        · obtain ⟨_,_,_,_,o,_,_,e,ex,_⟩:=I.hok p _ hk
          exact ⟨o,e,ex⟩
        · obtain ⟨_,_,_,_,o,_,_,e,ex,_⟩:=I.hok p _ hk
          exact ⟨o,e,ex⟩
      obtain ⟨o,e,ex⟩:=z
      refine ⟨⟨o,e,ex.1⟩,fun a e2=>?_⟩
      cases e2
      exact ⟨o,e,ex.2.1⟩
    · obtain ⟨o,_,_,_,e,ex,_⟩:=I.hok p _ hk
      refine ⟨⟨o,e,ex.1⟩,fun a e2=>?_⟩
      cases e2
      exact ⟨o,e,ex.2.1⟩
  | _=>exact False.elim ty
def tBM (K:PySem.W.Frag) (T:String) (r:V→List V→Hp→VK→Prop) (to:TE) (t:TA):TE:=fun σ H Q=>to σ H fun x H1=>tyV K T x H1∧t σ H1 fun xs H2=>r x xs H2 Q
variable {o e:Expr} {es:List Expr} {to:TE} {t:TA} {name:Str} {apos cpos:Pos} {T id:String} {r:V→List V→Hp→VK→Prop}
theorem pe_bm (pa:PlainAttrs T) (slot:Slot T name id) (hty:typeOf (.builtin id)=pure (.type "method_descriptor")) (hm:MtR X id r) (ho:PE X o to) (ha:PA X (e::es) t)
    (hbase:attributeBase o name X.env (eval o X.env)=eval o X.env:=by rfl)
    (hfew:((backTo cpos (starEach (e::es) X.env)).all (fun x=>!x.1)&&(backToKw cpos (keywordEach [] X.env)).all (fun x=>x.1.isSome)
      && decide ((e::es).length+([]:List Keyword).length+(if ([]:List Keyword).isEmpty then 0 else 1)<30))=true:=by rfl)
    (hline:(apos.endLine==cpos.line)=true:=by rfl) (hs:starEach (e::es) X.env=(false,eval e X.env)::starEach es X.env:=by rfl) (hplain:(backTo cpos (starEach es X.env)).any (·.1)=false:=by rfl) :
    PE X (.Call (.Attribute o name apos) (e::es) [] cpos) (tBM X.K T r to t):=by
  intro pins s σ H Q I h
  refine wpAny_Call_method_late hbase hfew hline rfl (thn (ho pins s σ H _ I h) fun v s1 ⟨x,H1,I1,r1,ty,q1⟩=>?_)
  obtain ⟨h1,h2⟩:=tyV_is I1 r1 ty
  refine ⟨T,id,pa,slot,hty,h1,h2,?_⟩
  have hA:=ha cpos pins s1 σ H1 _ I1 q1
  rw [hs] at hA ⊢
  refine Calls.callWith_builtin (by show (false || (backTo cpos (starEach es X.env)).any (·.1))=false; rw [hplain] <;> rfl) (Calls.evalArgs_plain ?_)
  exact thn hA fun us s2 ⟨vs,H2,I2,r2,q2⟩=>hm pins s2 σ H2 x vs v us Q I2 r1 r2 q2
end
end L2
namespace L2
open PySem PySem.Spec PyProof.Rows
def MtM (X:Cx) (id:String) (r:V→List V→Hp→VK→Prop):Prop :=
  ∀ (pins:List (Addr×Obj)) (s:Shared) (σ:St) (H:Hp) (x:V) (xs:List V) (v:Value) (us:List Value) (Q:VK),Inv X pins σ H s→RelV x v→Vals xs us→r x xs H Q →
    wpAny (model X.prog X.w) X.A (call (.builtin id) (v::us)) (EP X pins σ Q) X.xe s
theorem Vals.one:∀ {x:V} {us:List Value},Vals [x] us→∃ u,us=[u]∧RelV x u
  | _,_,.cons r .nil=>⟨_,rfl,r⟩
theorem Vals.rep {xs:List V} {us:List Value} (h:Vals xs us):∀ k:Nat,Vals (List.replicate k xs).flatten (List.replicate k us).flatten
  | 0=>.nil
  | k+1=>by
    rw [List.replicate_succ,List.replicate_succ,List.flatten_cons,List.flatten_cons]
    exact Vals.append h (Vals.rep h k)
theorem foldl_rep (its:List Value):∀ (k:Nat) (acc:List Value),
    List.foldl (fun x1 x2=>x1++x2) acc.toArray (List.replicate k its.toArray)=(acc++(List.replicate k its).flatten).toArray
  | 0,acc=>by simp
  | k+1,acc=>by
    have e:acc.toArray++its.toArray=(acc++its).toArray:=by simp
    have e2:(acc++its)++(List.replicate k its).flatten=acc++(List.replicate (k+1) its).flatten:=by
      rw [List.replicate_succ,List.flatten_cons,List.append_assoc]
    rw [← e2,← foldl_rep its k (acc++its),← e,List.replicate_succ,List.foldl_cons]
section
variable {X:Cx} {pins:List (Addr×Obj)} {σ:St} {H:Hp} {s:Shared} {l b:Addr} {xs ys zs:List V}
theorem Inv.lset {its its':List Value} {n:Nat} {f:Array Value→Array Value} {t':Nat} (I:Inv X pins σ H s) (hH:H l=some (.lst xs))
    (e:s.heap.get? l=some { cls:=.type "list", data:=.seq its.toArray n }) (hf:f its.toArray=its'.toArray) (hv:Vals ys its') (hz:ys.length≤sizeLine) :
    Inv X pins σ (upd H l (.lst ys)) { s with heap:=s.heap.update l (Obj.mapSeq f),toks:=t' }:=by
  have q:=PySem.IsL.update e f
  rw [hf] at q
  refine I.write (x:=l) (e:=l) (by rw [hH]; exact trivial) (.inl rfl) (fun b' u hb hu=>(Heap.get?_update_other s.heap (Obj.mapSeq f) (Ne.symm hb)).trans hu) ⟨_,q⟩ ?_
  exact ⟨hz,its',_,hv,q⟩
theorem Inv.lnew {its:List Value} {t':Nat} (I:Inv X pins σ H s) (hv:Vals ys its) (hz:ys.length≤sizeLine) :
    Inv X pins σ (upd H s.heap.objs.size (.lst ys)) { s with heap:=s.heap.push { cls:=.type "list", data:=.seq its.toArray },toks:=t' } :=
  I.laid (fun _ _ q=>Heap.get?_push_of_some _ q) (Nat.le_refl _) ⟨hz,its,0,hv,Heap.get?_push_size _ rfl⟩
theorem Inv.fresh (I:Inv X pins σ H s):H s.heap.objs.size=none:=I.hok.fresh (Nat.le_refl _)
theorem Inv.lstM (I:Inv X pins σ H s) (hH:H l=some (.lst xs)):xs.length≤sizeLine∧∃ (its:List Value) (n:Nat),Vals xs its∧xs.length=its.length∧s.heap.get? l=some { cls:=.type "list", data:=.seq its.toArray n }:=by
  obtain ⟨z,its,n,r,e⟩:=I.hok l _ hH
  exact ⟨z,its,n,r,r.length,e⟩
theorem notLongL {n:Nat} (h:n≤sizeLine):Builtin.List.listTooLong n=false:=by
  unfold Builtin.List.listTooLong
  exact decide_eq_false (by omega)
end
section
variable {X:Cx}
def rAppend:V→List V→Hp→VK→Prop:=fun x vs H Q=>∃ l xs y,x=.ref l∧vs=[y]∧H l=some (.lst xs)∧xs.length<sizeLine∧Q .non (upd H l (.lst (xs++[y])))
theorem mt_append:MtM X "list.append" rAppend:=by
  intro pins s σ H x vs v us Q I rx rv h
  obtain ⟨l,xs,y,rfl,rfl,hH,hz,q⟩:=h
  cases rx
  obtain ⟨u,rfl,ru⟩:=rv.one
  obtain ⟨z,its,n,r,hl,e⟩:=I.lstM hH
  refine call_meets F.slot_list_append ⟨_,e,rfl⟩ F.entry_list_append (F.args_list_append_2 _ _) (PySem.list_append l its.toArray n u (by rw [List.size_toArray]; omega)) ⟨e,?_⟩
  refine ⟨.non,_,I.lset (its':=its++[u]) hH e (by simp) (r.append (.cons ru .nil)) ?_,rfl,q⟩
  rw [List.length_append,List.length_singleton]
  omega
def rRep:R2:=fun x y H Q=>∃ l k xs,x=.ref l∧y=.int k∧H l=some (.lst xs)∧-(2 ^ 63)≤k∧k<2 ^ 63∧xs.length*k.toNat≤sizeLine ∧
  ∀ p,H p=none→Q (.ref p) (upd H p (.lst (List.replicate k.toNat xs).flatten))
theorem len_rep {α:Type} (xs:List α) (k:Nat):(List.replicate k xs).flatten.length=k*xs.length:=by
  induction k with
  | zero=>simp
  | succ k ih=>rw [List.replicate_succ,List.flatten_cons,List.length_append,ih,Nat.succ_mul,Nat.add_comm]
theorem op_rep:OpR X (binaryOp .Mult) rRep:=by
  intro pins s σ H x y v u Q I rx ry h
  obtain ⟨l,k,xs,rfl,rfl,hH,h1,h2,hz,q⟩:=h
  cases rx
  obtain ⟨t,rfl⟩:=ry
  obtain ⟨z,its,n,r,hl,e⟩:=I.lstM hH
  have hlen:its.toArray.size*k.toNat≤sizeLine:=by rw [List.size_toArray,← hl]; exact hz
  have hcap:¬ its.toArray.size*k.toNat > (2 ^ 63-1) / 8:=by
    have:(sizeLine:Nat)≤(2 ^ 63-1) / 8:=by decide
    omega
  have hfit:¬ (!Builtin.List.listFitsIndex k)=true:=by
    rw [fitsIndex_both h1 h2]
    exact Bool.false_ne_true
  have hlong:¬ Builtin.List.listTooLong (its.toArray.size*k.toNat)=true:=by
    rw [notLongL hlen]
    exact Bool.false_ne_true
  have hnew:List.foldl (fun x1 x2=>x1++x2) #[] (List.replicate (if its.toArray.isEmpty=true then 0 else k.toNat) its.toArray)=(List.replicate k.toNat its).flatten.toArray:=by
    have f0:∀ m:Nat,List.foldl (fun x1 x2=>x1++x2) #[] (List.replicate m its.toArray)=(List.replicate m its).flatten.toArray:=fun m=>by
      have:=foldl_rep its m []
      rw [List.nil_append] at this
      exact this
    rw [f0]
    cases its with
    | nil=>simp
    | cons a r'=>rw [if_neg (by simp)]
  refine wpAny_binaryOp_repeat_ref (T := "list") (U := "int") (by decide) ⟨_,e,rfl⟩ (fun s'=>typeIs_int s' k t) noFill_list_mul F.fills_int_mul F.slot_int_rmul repeat_list F.slot_int_index.lookup
    (call_meets F.slot_int_rmul (typeIs_int s k t) F.entry_int_rmul (F.args_int_rmul_2 _ _) (int___rmul___int_list k t l its.toArray n)
      ⟨e,rfl,⟨_,e,rfl⟩,call_meets F.slot_list_mul ⟨_,e,rfl⟩ F.entry_list_mul (F.args_list_mul_2 _ _) (AutoListH.list___mul___list_int_3 l its.toArray n k t hfit hcap hlong) ⟨e,?_⟩⟩)
  rw [hnew]
  exact ⟨.ref _,_,I.lnew (t':=s.toks) (r.rep k.toNat) (by rw [len_rep,Nat.mul_comm]; exact hz),rfl,q _ I.fresh⟩
end
section
variable {prog:Program} {w:World} {A:Around} {E:Value→Shared→Prop} {s:Shared}
end
section
variable {X:Cx}
end
end L2
namespace Att
open PySem PySem.W PySem.Calls PyProof.Rows
theorem ints_of_wellAll {P:Params} {h:Heap}:∀ (ns:List Int) (vs:List Value),WellAll P h vs (ns.map WData.int)→IntsAre vs ns:=by
  intro ns
  induction ns with
  | nil =>
    intro vs w
    rw [List.map_nil] at w
    cases w
    exact .nil
  | cons n ns ih =>
    intro vs w
    rw [List.map_cons] at w
    cases w with
    | cons a b =>
      cases a
      exact .cons _ _ (ih _ b)
theorem script_of {l:OpenLaw} {n:Nat} (hn:l.most=some n) {P:Params} {h:Heap} {args:List WData} {vals:List Value}
    (hpre:l.row.toRowW.claim.pre args=true) (hwl:WellAll P h vals args) :
    ∃ a vs ns,vals=[Value.ref a]∧args=[WData.list (ns.map WData.int)]∧h.get? a=some { cls:=.type "list", data:=.seq vs.toArray }∧IntsAre vs ns∧ns.length≤n:=by
  have hsh:WShape.hasAll [] args [.list .int]=true:=(pre_splitW hpre).1
  have hc:l.pre.holds [] { args:=args }=true:=(pre_splitW hpre).2
  obtain ⟨d,r,rfl,h1,h2⟩:=hasAllW_cons hsh
  obtain rfl:=hasAllW_nil h2
  obtain ⟨xs,rfl,h3⟩:=hasW_list h1
  obtain ⟨ns,rfl⟩:=items_int h3
  have hlen:ns.length≤n:=by
    unfold OpenLaw.pre at hc
    have h4:(WTm.not (.lt (.lit (.int (n:Int))) (.len (.arg 0)))).holds [] { args:=[.list (ns.map .int)] }=true:=by
      have h4:=(holds_andW hc).1
      rw [hn] at h4
      exact h4
    have h5:=condW_of h4 (w_not (w_lt w_lit (w_len_list (w_arg rfl))))
    rw [List.length_map] at h5
    refine Nat.le_of_not_lt fun q=>?_
    have q':(n:Int)<((ns.length:Nat):Int):=by omega
    first
      | (rw [decide_eq_true q'] at h5; exact absurd h5 (by decide))
      | (simp at h5; omega)
  cases hwl with
  | cons w1 w2 =>
    cases w2
    cases w1 with
    | list ho hall=>exact ⟨_,_,ns,rfl,rfl,ho,ints_of_wellAll ns _ hall,hlen⟩
theorem post_true (l:OpenLaw) (args:List WData):l.row.toRowW.claim.post args (.bool true) args=true :=
  postW_of (r:=l.row.toRowW) (X:=(true==true))
    (show WShape.has [] (.bool true) .bool=true by first | rfl | decide | simp [WShape.has,WShape.arms,WShape.armsAll])
    (show (WTm.eq .res (.lit (.bool true))).value [] { args:=args,res:=some (.bool true),after:=args }=some (.bool (true==true)) from w_eq_bool (w_res rfl) w_lit) rfl
section
variable {prog:Program} {w:World} {A:Around} {E:Value→Shared→Prop} {s:Shared} {K:Frag}
def ledger (h:Heap) (L d:Addr):List (Addr×Obj):=(List.range h.objs.size).filterMap fun a=>if a=L∨a=d then none else (h.get? a).map fun o=>(a,o)
end
end Att
namespace L2
open PySem PySem.Spec PyProof.Rows
theorem vals_ints:∀ {vs:List Value} {ns:List Int},IntsAre vs ns→Vals (ns.map V.int) vs
  | _,_,.nil=>.nil
  | _,_,.cons n t h=>.cons ⟨t,rfl⟩ (vals_ints h)
def Only (H:Hp):Prop:=∀ b,H b=none∨∃ o xs,H b=some (.frz o (.lst xs))
theorem law_call {P:Program} {w:World} {K:PySem.W.Frag} {mg mb:Str→Option Value} {CX:CXT} {k:Nat} {fa a:Addr} {fd:FuncData} {x:Str} {sp:Sp} {s₁:Shared} {vs:List Value} {ns:List Int}
    (KX:K.In s₁.heap) (hns:s₁.heap.Ns mainGlobals mg) (hb:s₁.heap.Ns builtinsNs mb) (hbb:∀ x:Str,x ≠ "__name__" → mb x=bootBuiltins x) (hlim:s₁.heap.NoLimit) (hg:s₁.gens=#[])
    (ha:s₁.heap.get? a=some { cls:=.type "list", data:=.seq vs.toArray }) (hi:IntsAre vs ns) (hl:ns.length≤sizeLine) (hr:Room k callerA)
    (F:∀ base:Heap,K.In base→base.Ns mainGlobals mg→FnOk P w K mg base CX k fa fd [x] sp) (hbind:∀ (s:Shared) (u:Value),BindsTo s fd ⟨[u],[]⟩ [(x,u)])
    (hsp:∀ H:Hp,Only H→SqL K H a (ns.map V.int)→sp [.ref a] H (fun v _=>v=.bl true) fun _ _ _=>False)
    (hCX:∀ H e s',CX [] H s₁ (fun _ _ _=>False) e s'→False) :
    codeAny (model P w) callerA (.call (.ref fa) ⟨[.ref a],[]⟩) (fun r s'=>r=.ok (.ret (.bool true))∧OldK s₁.heap s'.heap∧s'.os=s₁.os∧AllBare s'.gens) s₁:=by
  have rv:=vals_ints hi
  have lenV:=hi.length
  have core:∀ H:Hp,Only H→SqL K H a (ns.map V.int)→HOk P w H s₁.heap→(∀ b,H b≠none→b=a)→(H a≠none→K.lookup a=none) →
      codeAny (model P w) callerA (.call (.ref fa) ⟨[.ref a],[]⟩) (fun r s'=>r=.ok (.ret (.bool true))∧OldK s₁.heap s'.heap∧s'.os=s₁.os∧AllBare s'.gens) s₁:=by
    intro H hO hS hok hA hK
    have base_of:∀ {b:Addr} {o:Obj},s₁.heap.get? b=some o→H b=none→(hidT s₁.heap H).get? b=some o:=fun e n=>hidT_get e n
    have noA:∀ {b:Addr} {o:Obj} {es:Array DictEntry} {ep:Nat},s₁.heap.get? b=some o→o.data=.dict es ep→H b=none:=fun {b o es ep} e d=>by
      cases q:H b with
      | none=>rfl
      | some u =>
        have e':b=a:=hA b (by rw [q]; simp)
        subst e'
        rw [ha] at e; cases e
        have d':Data.seq vs.toArray _=Data.dict es ep:=d
        cases d'
    have nsK:∀ {b:Addr} {m:Str→Option Value},s₁.heap.Ns b m→(hidT s₁.heap H).Ns b m:=fun {b m} ⟨o,es,ep,e,d,r⟩=>⟨o,es,ep,base_of e (noA e d),d,r⟩
    have hKb:K.In (hidT s₁.heap H):=fun b o e=>base_of (KX b o e) (by
      cases q:H b with
      | none=>rfl
      | some u =>
        have e':b=a:=hA b (by rw [q]; simp)
        subst e'
        rw [hK (by rw [q]; simp)] at e; cases e)
    have hM:Mod K mg (hidT s₁.heap H):=⟨hKb,nsK hns,⟨mb,nsK hb,hbb⟩,let ⟨mc,h1,h2⟩:=hlim; ⟨mc,nsK h1,h2⟩⟩
    have e0:Env0 P w K mg (hidT s₁.heap H) callerA [] s₁ H:=⟨rfl,hM,fun b o e=>of_hidT e,Nat.le_of_eq (hidT_size _ _),trivial,fun b hb=>absurd (show b∈([]:List Addr) from hb) (by simp),hok,.of_eq hg⟩
    refine codeAny_mono ((F _ hKb (nsK hns)).run callerA [] s₁ H ⟨[.ref a],[]⟩ [.ref a] [.ref a] _ _ hr e0 (hbind s₁ (.ref a)) (.cons rfl .nil) (hsp H hO hS)) fun r s' h=>?_
    cases r with
    | error e=>exact (hCX H e s' h).elim
    | ok fl =>
      cases fl with
      | next=>exact False.elim h
      | brk=>exact False.elim h
      | cont=>exact False.elim h
      | ret u =>
        obtain ⟨v,H',os,bare,un,hok',r',q⟩:=h
        have q':v=.bl true:=q
        subst q'
        obtain rfl:u=Value.bool true:=r'
        refine ⟨rfl,OldK.of_keep fun b o e=>?_,os,bare⟩
        cases q:H b with
        | none=>exact un.keep b o e q (by intro z; exact absurd (show b∈([]:List Addr) from z) (by simp)) (by simp)
        | some u =>
          rcases hO b with z | ⟨ob,xs,z⟩
          · rw [q] at z; cases z
          · have z2:=un.frzs b ob _ z
            obtain ⟨e1,_⟩:=hok b _ z
            obtain ⟨e2,_⟩:=hok' b _ z2
            rw [e] at e1; cases e1
            exact e2
  cases hk:K.lookup a with
  | some o =>
    have e:=KX a o hk
    rw [ha] at e
    cases e
    refine core (fun _=>none) (fun _=>.inl rfl) (.inr ⟨_,vs.toArray,_,hk,rfl,rfl,rfl,by rw [List.size_toArray,lenV]; exact hl,by simpa using rv⟩) (fun b u z=>by have z':(none:Option HO)=some u:=z; cases z') (fun b z=>absurd rfl z) fun z=>absurd rfl z
  | none =>
    refine core (fun b=>if b=a then some (.frz { cls:=.type "list", data:=.seq vs.toArray } (.lst (ns.map V.int))) else none) (fun b=>?_) (.inl (.inr ⟨{ cls:=.type "list", data:=.seq vs.toArray },if_pos rfl⟩)) (fun b u z=>?_) (fun b z=>?_) fun _=>hk
    · by_cases hb:b=a
      · exact .inr ⟨_,_,if_pos hb⟩
      · exact .inl (if_neg hb)
    · by_cases hb:b=a
      · have z':=(if_pos hb).symm.trans z
        cases z'
        subst hb
        exact ⟨ha,by rw [List.length_map]; exact hl,vs,_,rv,ha⟩
      · have z':=(if_neg hb).symm.trans z
        cases z'
    · by_cases hb:b=a
      · exact hb
      · exact absurd (if_neg hb) z
end L2
namespace L2
open PySem PySem.Spec PyProof.Rows
abbrev KOf {K:PySem.W.Frag} {h:Heap} (_:K.In h):PySem.W.Frag:=K
end L2
namespace L2
open PySem PySem.Spec PyProof.Rows
def defArgs (s:Stmt):Arguments:=match s with
  | .FunctionDef _ a _ _ _ _ _ _ _ _=>a
  | _=>{ posonlyargs:=[],args:=[],vararg:=none,kwonlyargs:=[],kw_defaults:=[],kwarg:=none,defaults:=[] }
def defBody (s:Stmt):List Stmt:=match s with
  | .FunctionDef _ _ b _ _ _ _ _ _ _=>b
  | _=>[]
def defScope (s:Stmt):Scope:=match s with
  | .FunctionDef _ _ _ _ _ _ sc _ _ _=>sc
  | _=>{ kind:=.function,names:=[],isGenerator:=false,isCoroutine:=false }
abbrev CX0:CXT:=fun _ _ _ _ _ _=>False
abbrev E0:XK:=fun _ _ _=>False
theorem pass0 {X:Cx}:Passes CX0 X E0:=fun _ _ _ _ _ _ _ h=>h.elim
structure Fun (K:PySem.W.Frag) (x qual:Str) (st:Stmt) (f:Addr) (fd:FuncData):Prop where
  ex:∃ (oc:Value) (od:Option Addr) (kV doc pm:Value) (an:Option Addr) (cdv ct:Value) (osl:Array (Option Value)),
    fd=PySem.W.fnOf x qual (defArgs st) (defBody st) (defScope st) .none kV doc pm an cdv ct∧K.lookup f=some ⟨oc,od,.func fd,osl⟩∧PySem.W.codeIn K cdv qual=true
  kp:PySem.W.keepIn K (.ref f)=true
section
variable {P:Program} {w:World} {K:PySem.W.Frag} {mg:Str→Option Value} {base:Heap}
theorem Fun.ok {x qual:Str} {st:Stmt} {f:Addr} {fd:FuncData} {N ps:List Str} {k:Nat} {sp:Sp} (F:Fun K x qual st f fd) (S:FnScope N ps (defScope st)) (len:∀ vs H Q E,sp vs H Q E→vs.length=ps.length)
    (hbody:∀ (cdv:Value) (A:Around) (outer:List Env) (s:Shared) (H:Hp) (vs:List V) (Q:VK) (E:XK),Room k (A.deeper (envOfC qual (defScope st) s.heap.objs.size f cdv))→sp vs H Q E →
      ∃ t,PSs (cxOf CX0 P w K mg base N qual (defScope st) f cdv A outer s H E).nox (defBody st) t∧t { nx:=fun _ H'=>Q .non H',rt:=Q } (start N vs) H):FnOk P w K mg base CX0 (k+1) f fd ps sp:=by
  obtain ⟨oc,od,kV,doc,pm,an,cdv,ct,osl,rfl,lk,hcd⟩:=F.ex
  refine fn_of lk hcd S len fun A outer s H vs Q E hr hsp=>?_
  obtain ⟨t,h,q⟩:=hbody cdv A outer s H vs Q E hr hsp
  exact ⟨t,h.nox,q⟩
theorem Fun.binds {x qual:Str} {st:Stmt} {f:Addr} {fd:FuncData} {ps:List Str} (F:Fun K x qual st f fd)
    (h:∀ (kV doc pm:Value) (an:Option Addr) (cdv ct:Value) (us:List Value),us.length=ps.length→bindArgs (PySem.W.fnOf x qual (defArgs st) (defBody st) (defScope st) .none kV doc pm an cdv ct) ⟨us,[]⟩=pure (ps.zip us)):Binds K fd ps []:=by
  obtain ⟨oc,od,kV,doc,pm,an,cdv,ct,osl,rfl,lk,hcd⟩:=F.ex
  exact .all (h kV doc pm an cdv ct)
theorem fun_mk {x qual:Str} {st:Stmt} {f:Addr} {oc:Value} {od an:Option Addr} {osl:Array (Option Value)} {kV doc pm cdv ct:Value} (l:K.lookup f=some ⟨oc,od,.func (PySem.W.fnOf x qual (defArgs st) (defBody st) (defScope st) .none kV doc pm an cdv ct),osl⟩)
    (c:PySem.W.codeIn K cdv qual=true) (k:PySem.W.keepIn K (.ref f)=true):Fun K x qual st f (PySem.W.fnOf x qual (defArgs st) (defBody st) (defScope st) .none kV doc pm an cdv ct):=⟨⟨oc,od,kV,doc,pm,an,cdv,ct,osl,rfl,l,c⟩,k⟩
end
theorem hu_of {A:Around} {k:Nat} (hr:Room k A):A.units+1<cLine:=Nat.lt_of_le_of_lt (Nat.add_le_add_left (by decide:1≤64) _) hr.units
section
variable {X:Cx}
theorem pv (i:Nat) {x:Str} {pos:Pos} (hN:X.N[i]?=some x:=by rfl) (hv:Vis X.env.scope x:=by first | exact Or.inl rfl | exact Or.inr (Or.inl rfl) | exact Or.inr (Or.inr rfl)) (hd:(x==("__debug__" : Str))=false:=by decide)
    (hcd:(x==("__classdict__" : Str))=false:=by decide):PE X (.Name x pos) (tVar i):=pe_var hN hv hd hcd
end
theorem iteF {A B:Prop} (h:B):if false=true then A else B:=by
  rw [if_neg Bool.false_ne_true]
  exact h
theorem iteT {A B:Prop} (h:A):if true=true then A else B:=by
  rw [if_pos rfl]
  exact h
def Same (H H':Hp):Prop:=∀ b o,H b=some o→H' b=some o
theorem Same.refl (H:Hp):Same H H:=fun _ _ h=>h
theorem Same.trans {H H1 H2:Hp} (a:Same H H1) (b:Same H1 H2):Same H H2:=fun c o h=>b c o (a c o h)
theorem Same.free {H H':Hp} (e:Same H H') {l:Addr} (h:H' l=Option.none):H l=Option.none:=by
  cases q:H l with
  | none=>rfl
  | some o =>
    rw [e l o q] at h
    cases h
end L2
namespace L2
open PySem PySem.Spec PyProof.Rows
section
variable {X:Cx}
theorem op_mulB:OpR X (binaryOp .Mult) (rI IntMulOk fun i j=>.int (i*j)):=opI fun _ _ _ _ _ _ _ hc q=>mul_int q hc
theorem op_fdivB:OpR X (binaryOp .FloorDiv) (rI (fun _ j=>0<j∧j.natAbs.log2<9000) fun i j=>.int (i / j)):=opI fun i j _ _ _ _ _ hc q=>by
  have h1:(0:Int)<j:=hc.1
  exact floordiv_int (by omega) (by rw [Int.fdiv_eq_ediv_of_nonneg i (by omega)]; exact q) (.inl (PyProof.noPylong_of_log2 hc.2))
theorem call_sum (hc:X.calm=true):CallR X (.builtin "sum") (fun xs H Q=>∃ (p:Addr) (ns:List Int),xs=[.ref p]∧SqL X.K H p (ns.map V.int)∧Q (.int ns.sum) H):=by
  intro pins s σ H xs us Q I r h
  obtain ⟨p,ns,rfl,hq,q⟩:=h
  obtain ⟨u,rfl,rx⟩:=vals1 r
  cases rx
  obtain ⟨its,r',pl,hz⟩:=I.list hq
  have hi:=intsAre_of r'
  obtain ⟨ys,hx⟩:=hi.allInts.items
  have hl':s.heap.IsList p (intItems ys):=hx ▸ pl.isList
  refine sum_intListG (I.ok.hd hc) hl' fun h' tk t' hk=>?_
  have e1:ns=ys.toList.map (·.1):=by
    rw [← nums_intItems,← hx]
    exact (show numsOf its.toArray.toList=ns from hi.numsOf).symm
  have e2:preSum (numAt ys) ys.size=ns.sum:=by
    rw [preSum_eq,List.take_of_length_le (by simp),e1]
  rw [e2]
  exact ⟨.int ns.sum,H,I.kept hk,⟨_,rfl⟩,q⟩
theorem call_max1 (hc:X.calm=true):CallR X (.builtin "max") (fun xs H Q=>∃ (p:Addr) (ns:List Int),xs=[.ref p]∧SqL X.K H p (ns.map V.int)∧ns≠[]∧∀ M,M∈ns→(∀ a,a∈ns→a≤M)→Q (.int M) H):=by
  intro pins s σ H xs us Q I r h
  obtain ⟨p,ns,rfl,hq,hne,q⟩:=h
  obtain ⟨u,rfl,rx⟩:=vals1 r
  cases rx
  obtain ⟨its,r',pl,hz⟩:=I.list hq
  have hi:=intsAre_of r'
  obtain ⟨ys,e⟩:=hi.allInts.items
  have hns:ns=ys.toList.map (·.1):=by
    rw [← hi.numsOf,← nums_intItems,← e]
  have hsz:0<ys.size:=by
    have h3:=List.length_pos_iff.mpr hne
    rw [hns,List.length_map,Array.length_toList] at h3
    exact h3
  have hl:=pl.isList
  rw [e] at hl
  refine max_intList (I.ok.hd hc) hl hsz fun v h' tk hv hk=>?_
  obtain ⟨t,rfl⟩:=intItems_at hv
  obtain ⟨h1,h2⟩:=argBest_gt (numAt ys) (ys.size-1)
  refine ⟨.int _,H,I.kept hk,⟨t,rfl⟩,q _ ?_ fun a ha=>?_⟩
  · rw [hns,numAt_eq]; exact PySem.getD_mem (by rw [List.length_map,Array.length_toList]; omega)
  · rw [hns] at ha
    obtain ⟨j,hj,rfl⟩:=mem_getD ha
    rw [List.length_map,Array.length_toList] at hj
    rw [← numAt_eq]; exact h2 j (by omega)
theorem call_isi:CallR X (.builtin "isinstance") (fun xs H Q=>∃ x n t b,xs=[x,.ty n]∧TyOf X.K H x t∧PySem.W.kitOne X.K t (.type n)=some b∧Q (.bl b) H):=by
  intro pins s σ H xs us Q I r h
  obtain ⟨x,n,t,b,rfl,ty,e,q⟩:=h
  obtain ⟨u,w',rfl,rx,ry⟩:=vals2 r
  cases ry
  exact isinst_ok I rx ty e fun tk=>⟨.bl b,H,I.tok _,rfl,q⟩
theorem range_all_eq {α:Type} [DecidableEq α] {ns ms:List α} (d:α) (h:ns.length=ms.length):((List.range ns.length).all fun j=>decide (ns.getD j d=ms.getD j d))=decide (ns=ms):=by
  rw [Bool.eq_iff_iff,List.all_eq_true,decide_eq_true_iff]
  constructor
  · intro H
    refine List.ext_getElem h fun i h1 h2=>?_
    have:=of_decide_eq_true (H i (List.mem_range.mpr h1))
    rw [List.getD_eq_getElem?_getD,List.getD_eq_getElem?_getD,List.getElem?_eq_getElem h1,List.getElem?_eq_getElem h2] at this
    exact this
  · rintro rfl i _
    simp
theorem eqAt_items {α:Type} [DecidableEq α] {A:Around} {s:Shared} {us ws:List Value} {ns ms:List α} {d:α} (hl:us.length=ns.length) (hl2:ws.length=ms.length)
    (h:∀ (j:Nat) (u v:Value) (a b:α),us[j]?=some u→ws[j]?=some v→ns[j]?=some a→ms[j]?=some b→SeqAt.EqAt A s u v (decide (a=b))) :
    ∀ j (h1:j<us.toArray.size) (h2:j<ws.toArray.size),SeqAt.EqAt A s us.toArray[j] ws.toArray[j] (decide (ns.getD j d=ms.getD j d)):=by
  intro j h1 h2
  have h1':j<us.length:=by simpa using h1
  have h2':j<ws.length:=by simpa using h2
  have q:=h j us[j] ws[j] ns[j] ms[j] (List.getElem?_eq_getElem h1') (List.getElem?_eq_getElem h2') (List.getElem?_eq_getElem (by omega)) (List.getElem?_eq_getElem (by omega))
  have e1:ns.getD j d=ns[j]:=by rw [List.getD_eq_getElem?_getD,List.getElem?_eq_getElem (by omega)]; rfl
  have e2:ms.getD j d=ms[j]:=by rw [List.getD_eq_getElem?_getD,List.getElem?_eq_getElem (by omega)]; rfl
  rw [e1,e2]
  simpa using q
theorem rcAt_lists {α:Type} [DecidableEq α] [Inhabited α] {A:Around} {s:Shared} {l b:Addr} {us ws:List Value} {ns ms:List α} (p1:s.heap.IsList l us.toArray) (p2:s.heap.IsList b ws.toArray) (hl:us.length=ns.length) (hl2:ws.length=ms.length) (hu:A.units<cLine)
    (h:∀ (j:Nat) (u v:Value) (a b:α),us[j]?=some u→ws[j]?=some v→ns[j]?=some a→ms[j]?=some b→SeqAt.EqAt A.in1 s u v (decide (a=b))) :
    SeqAt.RcAt A s (.ref l) (.ref b) (decide (ns=ms)):=by
  by_cases hs:ns.length=ms.length
  · have q:=SeqAt.RcAt.lists (e:=fun j=>decide (ns.getD j default=ms.getD j default)) p1 p2 (by simp; omega) hu (eqAt_items hl hl2 h)
    have e:((List.range us.toArray.size).all fun j=>decide (ns.getD j default=ms.getD j default))=decide (ns=ms):=by
      rw [List.size_toArray,hl]; exact range_all_eq default hs
    rw [e] at q
    exact q
  · have q:=SeqAt.RcAt.lists_lengths p1 p2 (by simp; omega) hu
    have e:decide (ns=ms)=false:=decide_eq_false fun z=>hs (by rw [z])
    rw [e]
    exact q
theorem rcNeAt_lists {α:Type} [DecidableEq α] [Inhabited α] {A:Around} {s:Shared} {l b:Addr} {us ws:List Value} {ns ms:List α} (p1:s.heap.IsList l us.toArray) (p2:s.heap.IsList b ws.toArray) (hl:us.length=ns.length) (hl2:ws.length=ms.length) (hu:A.units<cLine)
    (h:∀ (j:Nat) (u v:Value) (a b:α),us[j]?=some u→ws[j]?=some v→ns[j]?=some a→ms[j]?=some b→SeqAt.EqAt A.in1 s u v (decide (a=b))) :
    SeqAt.RcNeAt A s (.ref l) (.ref b) (!decide (ns=ms)):=by
  by_cases hs:ns.length=ms.length
  · have q:=SeqAt.RcNeAt.lists (e:=fun j=>decide (ns.getD j default=ms.getD j default)) p1 p2 (by simp; omega) hu (eqAt_items hl hl2 h)
    have e:((List.range us.toArray.size).all fun j=>decide (ns.getD j default=ms.getD j default))=decide (ns=ms):=by
      rw [List.size_toArray,hl]; exact range_all_eq default hs
    rw [e] at q
    exact q
  · have q:=SeqAt.RcNeAt.lists_lengths p1 p2 (by simp; omega) hu
    have e:decide (ns=ms)=false:=decide_eq_false fun z=>hs (by rw [z])
    rw [e]
    exact q
end
open PySem.W in
theorem bits_of_lay {ns:List Int} (h:WData.layableAll [WData.list (ns.map WData.int)]=true):∀ n∈ns,Builtin.Int.intBits n≤1048576:=by
  have w:WData.weight (.list (ns.map WData.int))≤2 ^ 20:=by
    unfold WData.layableAll WData.layable at h
    simp only [List.all_cons,List.all_nil,Bool.and_true,Bool.and_eq_true,decide_eq_true_eq] at h
    exact h.2
  have key:∀ (ms:List Int),∀ n∈ms,Builtin.Int.intBits n≤WData.weightAll (ms.map WData.int):=by
    intro ms
    induction ms with
    | nil=>intro n hn; cases hn
    | cons m ms ih =>
      intro n hn
      rw [List.map_cons,WData.weightAll]
      rcases List.mem_cons.mp hn with rfl | hn
      · have e:WData.weight (.int n)=Builtin.Int.intBits n:=by simp [WData.weight,Builtin.Int.intBits]
        omega
      · have:=ih n hn
        omega
  intro n hn
  have q:=key ns n hn
  have e:WData.weight (.list (ns.map WData.int))=WData.weightAll (ns.map WData.int):=by simp [WData.weight]
  rw [e] at w
  exact Nat.le_trans q w
theorem walk_ofB {l:PySem.W.OpenLaw} {n k:Nat} {q:Program} {loose:List Str} {XP:(Str→Option Value)→Heap→Prop} {YP:World→Heap→Prop} {d:DefRec} {K:Params→PySem.W.Frag} {CX:World→CXT} {sp:World→Sp} {x:Str}
    (hn:l.most=some n) (hn2:n≤sizeLine) (hdf:d.params.defaults=[]) (hr:Room k callerA)
    (hY:∀ (w:World) (h:Heap),YP w h→(K w.params).In h)
    (F:∀ (w:World) (mg:Str→Option Value) (fa:Addr) (h:Heap),(K w.params).In h→h.Ns mainGlobals mg→mg d.name=some (.ref fa) →
      ∃ fd:FuncData,(∀ (s:Shared) (u:Value),BindsTo s fd ⟨[u],[]⟩ [(x,u)]) ∧
        ∀ base:Heap,(K w.params).In base→base.Ns mainGlobals mg→FnOk l.prog w (K w.params) mg base (CX w) k fa fd [x] (sp w))
    (hsp:∀ (w:World) (H:Hp) (a:Addr) (ns:List Int),ns.length≤n→(∀ m∈ns,Builtin.Int.intBits m≤1048576)→Only H→SqL (K w.params) H a (ns.map V.int)→sp w [.ref a] H (fun v _=>v=.bl true) fun _ _ _=>False)
    (hCX:∀ (w:World) (H:Hp) (s:Shared) (e:Value) (s':Shared),CX w [] H s (fun _ _ _=>False) e s'→False) :
    PySem.W.WalkO q loose XP YP l.row.toRowW d [] (fun f vs=>PySem.call f vs):=by
  intro w s₀ s₁ mg mb G Y fa o pm cd doc dV kV ho hd hcd hD hmg hg args vals as hpre hlay hrd hwl hlo
  obtain rfl:dV=.none:=PySem.W.Dflts.none hD hdf
  obtain rfl:kV=.none:=PySem.W.Dflts.noKw hD
  obtain ⟨a,vs,ns,rfl,rfl,hobj,hints,hlen⟩:=Att.script_of hn hpre hwl
  have KX:=hY w _ Y
  obtain ⟨fd,hb,hF⟩:=F w mg fa _ KX G.T.g hmg
  refine PySem.W.enter_call (codeAny_mono (law_call KX G.T.g G.T.b G.T.builtins G.T.nolimit hg hobj hints (Nat.le_trans hlen hn2) hr hF hb (fun H hO hS=>hsp w H a ns hlen (bits_of_lay hlay) hO hS) fun H e s'=>hCX w H s₁ e s') fun r s' hq=>?_)
  obtain ⟨rfl,h2,h3,h4⟩:=hq
  exact ⟨.inl ⟨.bool true,.bool true,[],rfl,fun _=>rfl,.bool true,Att.post_true l _,fun _=>⟨List.Pairwise.nil,fun _ hm=>(nomatch hm)⟩⟩,h2,h3,h4⟩
end L2
namespace L2
open PySem PySem.Spec PyProof.Rows
def compCx (X:Cx) (N':List Str) (scope:Scope) (cl:List (Str×Addr)) (C:Addr) (s3:Shared) (H3:Hp) (fp:List Addr) (pins:List (Addr×Obj)):Cx :=
  { X with N:=N',s₀:=s3,H₀:=H3,env:=compEnvC scope cl C X.env,outer:=X.stack,stack:=X.stack,ex:=fp,fn:=fun _=>false,pn:=X.pn++pins,xe:=fun _ _=>False }
structure Frees (X:Cx) (N':List Str) (scope:Scope) (cl:List (Str×Addr)) (σ σ0:St):Prop where
  sub:∀ x c,cl.lookup x=some c→X.env.cells.lookup x=some c
  vals:∀ (j:Nat) (x:Str) (v:V),N'[j]?=some x→σ0[j]?=some (some v)→∃ (i:Nat) (c:Addr),X.N[i]?=some x∧σ[i]?=some (some v)∧Vis X.env.scope x∧X.env.kindOf x≠some .local∧cl.lookup x=some c ∧
    ((relabel scope X.env).names.lookup x=some .cell∨(relabel scope X.env).names.lookup x=some .free)
  has:∀ x,((relabel scope X.env).names.lookup x=some .cell∨(relabel scope X.env).names.lookup x=some .free)→∃ c,cl.lookup x=some c
  len:σ0.length=N'.length
section
variable {prog:Program} {w:World} {A:Around} {R:Result→Shared→Prop} {s:Shared}
theorem compLoop_gen {elt target iter:Expr} {ifs:List Expr} {scope:Scope} {pos:Pos} {it acc:Value} {env:Env} (I:Nat→Shared→Prop)
    (turn:∀ n s,I n s→wpAny (model prog w) A (pyNext it) (fun r s₁=>match r with
      | none=>R (.ok .next) s₁
      | some v=>wpAny (model prog w) A (letOwnedTupleGo target it v) (fun _ s₀=>wpAny (model prog w) A (assign target env v) (fun _ s₂ =>
          wpAny (model prog w) A (forIn ifs true fun c r=>if r=true then do let ok ← isTrue c env (eval c env); pure (ForInStep.yield ok) else pure (ForInStep.yield r)) (fun ok s₃ =>
            if ok=true then wpAny (model prog w) A (eval elt env) (fun x s₄ =>
              wpAny (model prog w) A (call (.builtin "list.append") [acc,x]) (fun _ s₅=>∃ m,m<n∧I m s₅) (fun _ _=>False) s₄) (fun _ _=>False) s₃
            else ∃ m,m<n∧I m s₃) (fun _ _=>False) s₂) (fun _ _=>False) s₀) (fun _ _=>False) s₁) (fun _ _=>False) s)
    (n:Nat) (h:I n s) :
    codeAny (model prog w) A (.compLoop (.ListComp elt [⟨target,iter,ifs,0⟩] scope pos) 0 it acc env) R s:=by
  refine codeAny_loop rfl I (fun n s hI=>?_) n h
  show wpAny _ A ((compTurn (.ListComp elt [⟨target,iter,ifs,0⟩] scope pos) 0 it acc env).onRaise (fun x=>do noteFrame x env; theTreesLotGoes x)) _ _ s
  refine wpAny_noted ?_
  rw [compTurn_list]
  refine wpAny_bind (wpAny_standAt (wpAny_bind (wpAny_mono (turn n s hI) (fun r s₁ h₁=>?_) fun _ _ h'=>h'.elim)))
  cases r with
  | none=>exact wpAny_pure h₁
  | some v =>
    refine wpAny_bind (wpAny_mono h₁ (fun _ s₀ h₀=>?_) fun _ _ h'=>h'.elim)
    refine wpAny_bind (wpAny_mono h₀ (fun _ s₂ h₂=>wpAny_bind (wpAny_mono h₂ (fun ok s₃ h₃=>?_) fun _ _ h'=>h'.elim)) fun _ _ h'=>h'.elim)
    cases ok with
    | false=>exact wpAny_pure ⟨rfl,h₃⟩
    | true =>
      exact wpAny_bind (wpAny_bind (wpAny_mono h₃ (fun x s₄ h₄=>wpAny_bind (wpAny_mono h₄ (fun _ s₅ h₅=>wpAny_pure (wpAny_pure ⟨rfl,h₅⟩)) fun _ _ h'=>h'.elim)) fun _ _ h'=>h'.elim))
end
def compW (J:It) (g:TG) (tt:TT) (te:TE) (σ0:St) (H1:Hp) (Q:VK):Prop:=∀ D,H1 D=none→∃ W:Nat→Nat→List V→Hp→Prop,(∃ m,W 0 m [] (upd H1 D (.lst []))) ∧
  ∀ i m ys H,W i m ys H→(J.stop i H∧H D=some (.lst ys)∧Q (.ref D) H) ∨
    (J.go i H∧∀ x H',J.yld i H x H'→g x σ0 H' fun σ2 H2=>tt σ2 H2 fun c H3 =>
      if c=true then te σ2 H3 fun v H4=>H4 D=some (.lst ys)∧ys.length<sizeLine∧∃ m',m'<m∧W (i+1) m' (ys++[v]) (upd H4 D (.lst (ys++[v])))
      else ∃ m',m'<m∧W (i+1) m' ys H3)
def Keepg (g:TG) (σ0:St):Prop:=∀ x H (Q:St→Hp→Prop),g x σ0 H Q→g x σ0 H fun σ2 H2=>Q σ2 H2∧σ2.length=σ0.length∧∀ (j:Nat) v,σ0[j]?=some (some v)→σ2[j]?=some (some v)
section
variable {X:Cx} {tg elt iter:Expr} {ifs:List Expr} {scope:Scope} {cl:List (Str×Addr)} {N':List Str} {σ0:St→St} {g:TG} {tt:TT} {te:TE}
theorem comp_block {pos:Pos} {pins:List (Addr×Obj)} {σ:St} {H1:Hp} {s2:Shared} {it:Addr} {fp:List Addr} {tn:Nat→Heap→Prop} {J:It} {Q:VK} {RR:Value→Addr→Result→Shared→Prop}
    (hc:X.calm=true) (hcell:∀ y∈scope.names,y.2≠.cell) (hkind:scope.kind=.function)
    (I:Inv X pins σ H1 s2) (T:Turn X.prog X.w X.K tg J fp it tn) (st:tn 0 s2.heap) (hfp:∀ b∈fp,FpOk X pins H1 b) (fr:Frees X N' scope cl σ (σ0 σ)) (hk:Keepg g (σ0 σ))
    (hg:∀ C s3 H3 fp pins,PG (compCx X N' scope cl C s3 H3 fp pins) tg g)
    (ht:∀ C s3 H3 fp pins (pl:List (Addr×Obj)) (s:Shared) (σ:St) (H:Hp) (Q:Bool→Hp→Prop),Inv (compCx X N' scope cl C s3 H3 fp pins) pl σ H s→tt σ H Q →
      wpAny (model X.prog X.w) X.A (forIn ifs true fun c r=>if r=true then do let ok ← isTrue c (compEnvC scope cl C X.env) (eval c (compEnvC scope cl C X.env)); pure (ForInStep.yield ok) else pure (ForInStep.yield r)) (TP (compCx X N' scope cl C s3 H3 fp pins) pl σ Q) (fun _ _=>False) s)
    (he:∀ C s3 H3 fp pins,PE (compCx X N' scope cl C s3 H3 fp pins) elt te) (hw:compW J g tt te (σ0 σ) H1 Q)
    (hRR:∀ D C s' H' m,Inv X pins σ H' s'→s'.heap.Ns C m→H' C=none→C≠X.env.locals→X.s₀.heap.objs.size≤C→(∀ x c,X.env.cells.lookup x=some c→c≠C)→(∀ p∈X.pn++pins,p.1≠C)→Q (.ref D) H'→RR (.ref D) C (.ok .next) s') :
    wpAny (model X.prog X.w) X.A (newList []) (fun acc s₃=>wpAny (model X.prog X.w) X.A (newFunctionEnv scope X.env.globals cl [] X.env.qual none .none (some X.env)) (fun cenv s₄ =>
      codeAny (model X.prog X.w) X.A (.compStart (.ListComp elt [⟨tg,iter,ifs,0⟩] scope pos) 0 (.ref it) acc { cenv with scope:=relabel scope X.env }) (RR acc cenv.locals) s₄) X.xe s₃) X.xe s2:=by
  refine wpAny_newObj_type (hd:=by size_fits) (wpAny_newFunctionEnv hcell (by intro y hy; simp at hy) (fun h₁ hns₁ hsb₁=>?_) hkind)
  dsimp only at hns₁ hsb₁ ⊢
  have I3:Inv X pins σ (upd H1 s2.heap.objs.size (.lst [])) { s2 with heap:=s2.heap.push { cls:=.type "list", dict:=none,data:=.seq ([]:List Value).toArray } }:=I.lnew (t':=s2.toks) (its:=[]) (ys:=[]) .nil (Nat.zero_le _)
  obtain ⟨W,⟨m0,w0⟩,turn⟩:=hw s2.heap.objs.size I.fresh
  have hfpo:=T.obj 0 _ st
  have fpl:∀ b∈fp,b<s2.heap.objs.size:=fun b hb=>by
    obtain ⟨o,e,_⟩:=hfpo b hb
    exact Heap.lt_size e
  have fD:∀ b∈fp,upd H1 s2.heap.objs.size (.lst []) b=none:=fun b hb=>by
    rw [upd_ne (Nat.ne_of_lt (fpl b hb))]
    exact (hfp b hb).1
  generalize hs3:({ s2 with heap:=s2.heap.push { cls:=.type "list", dict:=none,data:=.seq ([]:List Value).toArray } }:Shared)=s3 at I3
  have es3:s3.heap=s2.heap.push { cls:=.type "list", dict:=none,data:=.seq ([]:List Value).toArray }:=by rw [← hs3]
  have st3:tn 0 s3.heap:=T.keep _ _ _ st fun b hb o e=>by rw [es3]; exact Heap.get?_push_of_some _ e
  rw [← es3] at hns₁ hsb₁ ⊢
  have sz3:s2.heap.objs.size<s3.heap.objs.size:=by rw [es3,Heap.size_push]; exact Nat.lt_succ_self _
  generalize upd H1 s2.heap.objs.size (.lst [])=H3 at I3 fD w0
  have old:∀ b o,s3.heap.get? b=some o→h₁.get? b=some o:=fun b o e=>hsb₁.extBut b o (Nat.ne_of_lt (Heap.lt_size e)) (Heap.get?_push_of_some _ e)
  have fpl3:∀ b∈fp,b<s3.heap.objs.size:=fun b hb=>Nat.lt_trans (fpl b hb) sz3
  have stk:∀ b∈fp,b∉frs X.stack:=fun b hb z=>by
    rcases List.mem_cons.mp (I3.stkSub b z) with e | e
    · exact (hfp b hb).2.1 e
    · exact (hfp b hb).2.2.1 e
  have ok:(compCx X N' scope cl s3.heap.objs.size s3 H3 fp pins).Ok:=by
    refine ⟨I3.ok.mod,hkind,I3.ok.glob,I3.ok.blt,Nat.le_refl _,fun x y c h1 h2=>I3.ok.inj x y c (fr.sub x c h1) (fr.sub y c h2),fun x h=>fr.has x h,fun x c h _=>(by cases h),I3.ok.hd,I3.ok.frames,.inl rfl,
      fun b hb=>⟨Nat.ne_of_lt (fpl3 b hb),fun x c e=>(hfp b hb).2.2.2.2.1 x c (fr.sub x c e)⟩,I3.bs,Nat.le_trans I3.ok.bsz I3.sz,fun b o e hb=>?_,fun b hb=>stk b hb,I3.stack,I3.stkFree⟩
    rcases (hfp b hb).2.2.2.1 with z | z
    · exact I3.ok.noex b o e z
    · have l1:b<X.base.objs.size:=Heap.lt_size e
      have l2:X.base.objs.size≤X.s₀.heap.objs.size:=I3.ok.bsz
      have l3:X.s₀.heap.objs.size≤b:=z
      exact absurd (Nat.lt_of_lt_of_le l1 (Nat.le_trans l2 l3)) (Nat.lt_irrefl _)
  have lt3:X.env.locals<s3.heap.objs.size:=I3.lt
  have start:Inv (compCx X N' scope cl s3.heap.objs.size s3 H3 fp pins) [] (σ0 σ) H3 { s3 with heap:=h₁ }:=by
    refine ⟨ok,rfl,I3.bare,Un.kept old,⟨_,hns₁,fun j x v e1 e2 _=>?_⟩,fun x c e=>?_,I3.hok.fresh (Nat.le_refl _),fun x c e=>I3.freeC x c (fr.sub x c e),fun p hp=>?_,I3.hok.kept old,fr.len⟩
    · obtain ⟨i,c,q1,q2,q3,q4,q5,q6⟩:=fr.vals j x v e1 e2
      obtain ⟨m,hn,hl⟩:=I3.loc
      obtain ⟨u,r,l⟩:=hl i x v q1 q2 q3
      refine ⟨u,r,.inr ⟨q6,c,q5,?_⟩⟩
      rcases l with ⟨k,_⟩ | ⟨_,c',e',z⟩
      · exact absurd k q4
      · rw [fr.sub x c q5] at e'
        cases e'
        obtain ⟨o,ho,hd⟩:=z
        exact ⟨o,old _ _ ho,hd⟩
    · obtain ⟨v,o,ho,hd⟩:=I3.cell x c (fr.sub x c e)
      exact ⟨v,o,old _ _ ho,hd⟩
    · have hp':p∈X.pn++pins:=by simpa [compCx] using hp
      obtain ⟨e,n,ne,nf,d⟩:=I3.pin p hp'
      refine ⟨old _ _ e,n,Nat.ne_of_lt (Heap.lt_size e),fun z=>?_,d⟩
      rcases List.mem_cons.mp (I3.stkSub p.1 z) with q | q
      · exact ne q
      · exact nf q
  have hst₁:tn 0 h₁:=T.keep _ _ _ st3 fun b _ o e=>old b o e
  have fpok:∀ {H':Hp},(∀ b∈fp,H' b=none)→∀ b∈fp,FpOk (compCx X N' scope cl s3.heap.objs.size s3 H3 fp pins) [] H' b:=fun {H'} hn b hb =>
    ⟨hn b hb,Nat.ne_of_lt (fpl3 b hb),stk b hb,.inl hb,fun x c e=>(hfp b hb).2.2.2.2.1 x c (fr.sub x c e),fun p hp=>(hfp b hb).2.2.2.2.2 p (by simpa [compCx] using hp)⟩
  have loop:codeAny (model X.prog X.w) X.A (.compLoop (.ListComp elt [⟨tg,iter,ifs,0⟩] scope pos) 0 (.ref it) (.ref s2.heap.objs.size) (compEnvC scope cl s3.heap.objs.size X.env)) (RR (.ref s2.heap.objs.size) s3.heap.objs.size) { s3 with heap:=h₁ }:=by
    refine compLoop_gen (fun n s'=>∃ i ys H',Inv (compCx X N' scope cl s3.heap.objs.size s3 H3 fp pins) [] (σ0 σ) H' s'∧tn i s'.heap∧(∀ b∈fp,H' b=none)∧W i n ys H') ?_ m0 ⟨0,[],H3,start,hst₁,fD,w0⟩
    rintro n s4 ⟨i,ys,H4,I4,st4,fr4,w4⟩
    rcases turn i n ys H4 w4 with ⟨stop,eD,q⟩ | ⟨go,step⟩
    · refine thn (T.done (compCx X N' scope cl s3.heap.objs.size s3 H3 fp pins) rfl rfl rfl hc i [] s4 _ H4 _ I4 (fpok fr4) st4 stop) fun r s5 ⟨hr,I5⟩=>?_
      subst hr
      obtain ⟨m5,n5,_⟩:=I5.loc
      have J5:Inv X pins σ H4 s5:=I3.call' I5.os I5.base I5.hok I5.bare fun b hb=>⟨(hfp b hb).2.2.2.1,(hfp b hb).2.1,(hfp b hb).2.2.2.2.1,(hfp b hb).2.2.2.2.2⟩
      exact hRR _ _ s5 H4 m5 J5 n5 I5.free (Nat.ne_of_gt lt3) I3.sz (fun x c e z=>by
        obtain ⟨v,o,ho,_⟩:=I3.cell x c e
        exact absurd (Heap.lt_size ho) (by rw [z]; exact Nat.lt_irrefl _)) (fun p hp z=>by
        have e:=(I3.pin p hp).1
        exact absurd (Heap.lt_size e) (by rw [z]; exact Nat.lt_irrefl _)) q
    · refine thn (T.item (compCx X N' scope cl s3.heap.objs.size s3 H3 fp pins) rfl rfl rfl hc i [] s4 _ H4 _ I4 (fpok fr4) st4 go) fun r s5 ⟨u,hr,h5⟩=>?_
      subst hr
      refine thn h5 fun _ s6 ⟨x,H6,I6,r6,y6,st6,fr6⟩=>?_
      have I6':=I6.pinned (fpok fr6) (T.obj _ _ st6)
      refine thn (hg _ _ _ _ _ _ s6 _ H6 x u _ I6' r6 (hk _ _ _ (step x H6 y6))) fun _ s7 ⟨σ7,H7,I7,q7,l7,k7⟩=>?_
      have again:∀ {s8:Shared} {H8:Hp} {m:Nat} {zs:List V},Inv (compCx X N' scope cl s3.heap.objs.size s3 H3 fp pins) ([]++pinsAt fp s6.heap) σ7 H8 s8→m<n→W (i+1) m zs H8 →
          ∃ m,m<n∧∃ i ys H',Inv (compCx X N' scope cl s3.heap.objs.size s3 H3 fp pins) [] (σ0 σ) H' s8∧tn i s8.heap∧(∀ b∈fp,H' b=none)∧W i m ys H':=fun {s8 H8 m zs} I8 hm w8=>by
        refine ⟨m,hm,i+1,zs,H8,(Inv.unpinned I8).weak l7.symm k7,T.keep _ _ _ st6 fun b hb o e=>(I8.pin (b,o) (List.mem_append_right _ (List.mem_append_right _ (mem_pinsAt hb e)))).1,fun b hb=>?_,w8⟩
        obtain ⟨o,e,d⟩:=T.obj _ _ st6 b hb
        exact (I8.pin (b,o) (List.mem_append_right _ (List.mem_append_right _ (mem_pinsAt hb e)))).2.1
      refine thn (ht _ _ _ _ _ _ s7 σ7 H7 _ I7 q7) fun c s8 ⟨H8,I8,q8⟩=>?_
      cases c with
      | false =>
        rw [if_neg Bool.false_ne_true] at q8 ⊢
        obtain ⟨m',hm,w8⟩:=q8
        exact again I8 hm w8
      | true =>
        rw [if_pos rfl] at q8 ⊢
        refine thn (he _ _ _ _ _ _ s8 σ7 H8 _ I8 q8) fun v s9 ⟨y,H9,I9,r9,e9,z9,m',hm,w9⟩=>?_
        exact thn (mt_append _ s9 σ7 H9 (.ref s2.heap.objs.size) [y] (.ref s2.heap.objs.size) [v] (fun _ H'=>H'=upd H9 s2.heap.objs.size (.lst (ys++[y]))) I9 rfl (.cons r9 .nil) ⟨_,ys,y,rfl,rfl,e9,z9,rfl⟩)
          fun _ s10 ⟨_,H10,I10,_,e10⟩=>by subst e10; exact again I10 hm w9
  subst hs3
  exact codeAny_compStart_list loop (T.self _ 0 _ _ _ hst₁ loop)
def tComp (wi:TI) (g:TG) (tt:TT) (te:TE) (σ0:St→St):TE:=fun σ H Q=>wi σ H fun J H1=>compW J g tt te (σ0 σ) H1 Q
def tTrue:TT:=fun _ H Q=>Q true H
variable {pos:Pos} {wi:TI}
theorem pe_compG (hc:X.calm=true) (hi:PI X tg iter wi) (fr:∀ σ:St,σ.length=X.N.length→Frees X N' scope cl σ (σ0 σ)) (hk:∀ σ,Keepg g (σ0 σ))
    (hg:∀ C s3 H3 fp pins,PG (compCx X N' scope cl C s3 H3 fp pins) tg g)
    (ht:∀ C s3 H3 fp pins (pl:List (Addr×Obj)) (s:Shared) (σ:St) (H:Hp) (Q:Bool→Hp→Prop),Inv (compCx X N' scope cl C s3 H3 fp pins) pl σ H s→tt σ H Q →
      wpAny (model X.prog X.w) X.A (forIn ifs true fun c r=>if r=true then do let ok ← isTrue c (compEnvC scope cl C X.env) (eval c (compEnvC scope cl C X.env)); pure (ForInStep.yield ok) else pure (ForInStep.yield r)) (TP (compCx X N' scope cl C s3 H3 fp pins) pl σ Q) (fun _ _=>False) s)
    (he:∀ C s3 H3 fp pins,PE (compCx X N' scope cl C s3 H3 fp pins) elt te)
    (hclos:closureFor scope X.env=pure cl) (hcell:∀ y∈scope.names,y.2≠.cell) (hkind:scope.kind=.function) (hnames:∀ y∈scope.names,y.2=.local→scope.names.lookup y.1=some .local)
    (hs:∀ x,foldedSetIterable iter X.env x=pure x):PE X (.ListComp elt [⟨tg,iter,ifs,0⟩] scope pos) (tComp wi g tt te σ0):=by
  intro pins s σ H Q I h
  rw [eval_ListComp]
  refine wpAny_comprehension_free (use:=none) rfl hs hclos hkind hnames (thn (hi pins s σ H _ I h) fun v s1 h1=>thn h1 fun itv s2 h2=>?_)
  obtain ⟨it,fp,tn,J,H2,e,I2,T,st2,f2,q⟩:=h2
  subst e
  refine comp_block (RR:=fun acc C=>compPost (model X.prog X.w) X.A X.xe none (EP X pins σ Q) acc C) hc hcell hkind I2 T st2 f2 (fr σ I.len) (hk σ) hg ht he q ?_
  intro D C s' H' m I' hn hC h1 h2 h3 h4 q'
  refine ⟨m,hn,fun h'' hs''=>⟨.ref D,H',?_,rfl,q'⟩⟩
  exact I'.turned (t':=s'.toks) (fun b o hb e=>hs''.extBut b o hb e) hC h1 (.inr h2) h3 h4
def tSetC (t:TE) (i:Nat):TS:=fun D σ H=>t σ H fun x H1=>D.nx (σ.set i (some x)) H1
theorem ps_setCG {i:Nat} {x:Str} {pos' spos:Pos} (hN:X.N.Nodup) (hi':X.N[i]?=some x) (hx:Loc X.env.scope x) (hf:X.fn x=true∨X.env.scope.names.lookup x=some .local)
    (hc:X.calm=true) (hi:PI X tg iter wi) (fr:∀ σ:St,σ.length=X.N.length→Frees X N' scope cl σ (σ0 σ)) (hk:∀ σ,Keepg g (σ0 σ))
    (hg:∀ C s3 H3 fp pins,PG (compCx X N' scope cl C s3 H3 fp pins) tg g)
    (ht:∀ C s3 H3 fp pins (pl:List (Addr×Obj)) (s:Shared) (σ:St) (H:Hp) (Q:Bool→Hp→Prop),Inv (compCx X N' scope cl C s3 H3 fp pins) pl σ H s→tt σ H Q →
      wpAny (model X.prog X.w) X.A (forIn ifs true fun c r=>if r=true then do let ok ← isTrue c (compEnvC scope cl C X.env) (eval c (compEnvC scope cl C X.env)); pure (ForInStep.yield ok) else pure (ForInStep.yield r)) (TP (compCx X N' scope cl C s3 H3 fp pins) pl σ Q) (fun _ _=>False) s)
    (he:∀ C s3 H3 fp pins,PE (compCx X N' scope cl C s3 H3 fp pins) elt te)
    (hclos:closureFor scope X.env=pure cl) (hcell:∀ y∈scope.names,y.2≠.cell) (hkind:scope.kind=.function) (hnames:∀ y∈scope.names,y.2=.local→scope.names.lookup y.1=some .local)
    (hs:∀ x,foldedSetIterable iter X.env x=pure x) (hsw:swapsWith (.ListComp elt [⟨tg,iter,ifs,0⟩] scope pos) (some (.Name x pos')) spos.line X.env=pure true) :
    PS X (.Assign [.Name x pos'] (.ListComp elt [⟨tg,iter,ifs,0⟩] scope pos) spos) (tSetC (tComp wi g tt te σ0) i):=by
  intro pins s σ H D I h
  rw [exec_Assign_Name_used _ _ _ _ hsw]
  refine wpAny_bind (wpAny_standAt (wpAny_bind ?_))
  show wpAny _ X.A (do let _ ← comprehension (.ListComp elt [⟨tg,iter,ifs,0⟩] scope pos) scope X.env _ (newList []) false (eval iter X.env) (some (assign (.Name x pos') X.env))) _ _ s
  refine wpAny_bind (wpAny_mono (wpAny_comprehension_free (Q:=fun _ s'=>SP X pins D .next s') (use:=some (assign (.Name x pos') X.env)) rfl hs hclos hkind hnames (thn (hi pins s σ H _ I h) fun v s1 h1=>thn h1 fun itv s2 h2=>?_))
    (fun _ s' hq=>wpAny_pure (wpAny_pure hq)) fun _ _ e=>e)
  obtain ⟨it,fp,tn,J,H2,e,I2,T,st2,f2,q⟩:=h2
  subst e
  refine comp_block (RR:=fun acc C=>compPost (model X.prog X.w) X.A X.xe (some (assign (.Name x pos') X.env)) (fun _ s'=>SP X pins D .next s') acc C) hc hcell hkind I2 T st2 f2 (fr σ I.len) (hk σ) hg ht he q ?_
  intro Dl C s' H' m I' hn hC h1 h2 h3 h4 q'
  show wpAny _ _ (assign (.Name x pos') X.env (.ref Dl)) _ _ s'
  refine wpAny_assign_Name (store_ok2 (v:=.ref Dl) I' hN hi' hx rfl (fun s'' I'' ⟨a,hsb,ha⟩=>?_) hf)
  have hne:C≠a:=by
    rcases ha with rfl | ha
    · exact h1
    · exact Ne.symm (h3 x a ha)
  refine ⟨m,hn.sameBut hsb hne,fun h'' hs''=>⟨_,H',?_,q'⟩⟩
  exact I''.turned (t':=s''.toks) (fun b o hb e=>hs''.extBut b o hb e) hC h1 (.inr h2) h3 h4
end
end L2
namespace L2
open PySem PySem.Spec PyProof.Rows
section
variable {X:Cx} {iter elt c:Expr} {scope:Scope} {y z:Str} {py pos:Pos} {wi:TI} {te:TE} {tt:TT}
theorem tests0 {N':List Str} {cl:List (Str×Addr)}:∀ C s3 H3 fp pins (pl:List (Addr×Obj)) (s:Shared) (σ:St) (H:Hp) (Q:Bool→Hp→Prop),Inv (compCx X N' scope cl C s3 H3 fp pins) pl σ H s→tTrue σ H Q →
    wpAny (model X.prog X.w) X.A (forIn ([]:List Expr) true fun c r=>if r=true then do let ok ← isTrue c (compEnvC scope cl C X.env) (eval c (compEnvC scope cl C X.env)); pure (ForInStep.yield ok) else pure (ForInStep.yield r)) (TP (compCx X N' scope cl C s3 H3 fp pins) pl σ Q) (fun _ _=>False) s :=
  fun _ _ _ _ _ _ _ _ H _ I h=>wpAny_tests_nil ⟨H,I,h⟩
theorem tests1 {N':List Str} {cl:List (Str×Addr)} (ht:∀ C s3 H3 fp pins,PT (compCx X N' scope cl C s3 H3 fp pins) c tt):∀ C s3 H3 fp pins (pl:List (Addr×Obj)) (s:Shared) (σ:St) (H:Hp) (Q:Bool→Hp→Prop),Inv (compCx X N' scope cl C s3 H3 fp pins) pl σ H s→tt σ H Q →
    wpAny (model X.prog X.w) X.A (forIn [c] true fun c r=>if r=true then do let ok ← isTrue c (compEnvC scope cl C X.env) (eval c (compEnvC scope cl C X.env)); pure (ForInStep.yield ok) else pure (ForInStep.yield r)) (TP (compCx X N' scope cl C s3 H3 fp pins) pl σ Q) (fun _ _=>False) s :=
  fun C s3 H3 fp pins pl s σ H Q I h=>wpAny_tests_one (ht C s3 H3 fp pins pl s σ H Q I h)
end
end L2
namespace L2
open PySem PySem.Spec PyProof.Rows
section
variable {X:Cx}
def CallKR (X:Cx) (f:Value) (ks:List Str) (r:List V→List V→Hp→VK→Prop):Prop :=
  ∀ (pins:List (Addr×Obj)) (s:Shared) (σ:St) (H:Hp) (xs zs:List V) (us ws:List Value) (Q:VK),Inv X pins σ H s→Vals xs us→Vals zs ws→r xs zs H Q →
    wpAny (model X.prog X.w) X.A (call f us (ks.zip ws)) (EP X pins σ Q) X.xe s
def tCBK (r:List V→List V→Hp→VK→Prop) (t tk:TA):TE:=fun σ H Q=>t σ H fun vs H1=>tk σ H1 fun zs H2=>r vs zs H2 Q
theorem pe_callBK {x:Str} {id:String} {p pos:Pos} {e:Expr} {es:List Expr} {kws:List Keyword} {ks:List Str} {t tk:TA} {r:List V→List V→Hp→VK→Prop} (hc:CallKR X (.builtin id) ks r) (hg:Gl X x) (hm:X.mg x=none) (hv:bootBuiltins x=some (.builtin id)) (ha:PA X (e::es) t) (hk:PK X kws tk)
    (hks:(backToKw pos (keywordEach kws X.env)).filterMap (·.1)=ks:=by rfl) (hn:x ≠ "__name__" := by decide) (hdb:(x==("__debug__" : Str))=false:=by decide)
    (he:backTo pos (starEach (e::es) X.env)=(false,eval e X.env)::backTo pos (starEach es X.env):=by rfl) (hpl:(backTo pos (starEach (e::es) X.env)).any (·.1)=false:=by rfl)
    (hall:(backToKw pos (keywordEach kws X.env)).all (·.1.isSome)=true:=by rfl) (hkw:(backToKw pos (keywordEach kws X.env)).any (·.1.isNone)=false:=by rfl):PE X (.Call (.Name x p) (e::es) kws pos) (tCBK r t tk):=by
  intro pins s σ H Q I h
  refine wpAny_Call_Name_kw (ld_blt I hg hm hv ?_ hn hdb)
  refine PyProof.Rows.callWith_kw (thn (ha pos pins s σ H _ I h) fun us s1 ⟨vs,H1,I1,r1,q1⟩=>?_) he hpl hall hkw
  refine thn (hk pos pins s1 σ H1 _ I1 q1) fun ws s2 ⟨zs,H2,I2,r2,q2⟩=>?_
  rw [hks]
  exact hc pins s2 σ H2 vs zs us ws Q I2 r1 r2 q2
end
section
variable {prog:Program} {w:World} {A:Around} {R:Result→Shared→Prop} {I:Addr} {fp wr:List Addr} {n:Nat} {P:Nat→Value→Prop} {St:Nat→Heap→Prop} {kw:List (Str×Value)}
theorem maxD_loop (W:Walks prog w A.in1 I fp wr n P St) (bt:Nat→Nat→Bool) (hcmp:CmpOf prog w A.in1 .Gt P bt) (S:Addr) (hSf:S∉fp) :
    ∀ (k j:Nat) (s:Shared) (vb:Value) (c:Nat),n-(j+1)=k→j+1≤n→St (j+1) s.heap→P (argBest bt j) vb →
    s.heap.get? S=some { cls:=.type "list", dict:=none,data:=.seq #[vb,vb] c,slots:=#[] } →
    (∀ v h' tk,P (argBest bt (n-1)) v→(∀ b o,b∉wr→b≠S→s.heap.get? b=some o→h'.get? b=some o)→R (.ok (.ret v)) { s with heap:=h',toks:=tk }) →
    codeAny (model prog w) A (.builtin "max.loop" ⟨[.ref I,.none,.ref S],kw⟩) R s:=by
  have hSw:S∉wr:=fun h=>hSf (W.sub _ h)
  have hname:(toString "max" ++ toString ".loop" : String) = "max.loop" := by decide
  intro k
  induction k with
  | zero =>
    intro j s vb c hk hj hst hPb hS hR
    have hin:j+1=n:=by omega
    refine codeAny_builtin F.entry_max_loop ?_
    rw [Around.under_plainId F.plain_max_loop _]
    show wpAny _ A.in1 (seqItems? (.ref S) >>= _) _ _ s
    refine wpAny_bind (wpAny_seqItems hS rfl ?_)
    show wpAny _ A.in1 (tryCatch (pyNext (.ref I)) _ >>= _) _ _ s
    refine wpAny_bind (wpAny_tryCatch (W.done s _ _ (hin ▸ hst) fun h' tk hk'=>?_))
    have hS':=hk' S _ hSw hS
    show wpAny _ A.in1 (updateSeq S (fun _=>#[]) >>= _) _ _ _
    refine wpAny_bind ?_
    refine wpAny_updateSeq hS' rfl (wpAny_bind (wpAny_letGo (wpAny_pure ?_)))
    refine hR vb _ tk (by rw [← hin]; exact hPb) fun b o hbw hbS e=>(Heap.get?_update_other _ _ (Ne.symm hbS)).trans (hk' b o hbw e)
  | succ k ih =>
    intro j s vb c hk hj hst hPb hS hR
    have hlt:j+1<n:=by omega
    refine codeAny_builtin F.entry_max_loop ?_
    rw [Around.under_plainId F.plain_max_loop _]
    show wpAny _ A.in1 (seqItems? (.ref S) >>= _) _ _ s
    refine wpAny_bind (wpAny_seqItems hS rfl ?_)
    show wpAny _ A.in1 (tryCatch (pyNext (.ref I)) _ >>= _) _ _ s
    refine wpAny_bind (wpAny_tryCatch (W.item (j+1) s _ _ hlt hst fun v h' tk hP hst' hk'=>?_))
    have hS':=hk' S _ hSw hS
    show wpAny _ A.in1 (tryCatch (holding [v,v] (richCompare .Gt v vb >>= _)) _ >>= _) _ _ _
    refine wpAny_bind (wpAny_tryCatch (wpAny_holding (wpAny_bind (hcmp (j+1) (argBest bt j) v vb _ _ _ hP hPb ?_))))
    refine wpAny_bind (wpAny_holding (wpAny_truthy_bool ?_))
    refine wpAny_bind (wpAny_letGo (wpAny_pure ?_))
    cases hb:bt (j+1) (argBest bt j) with
    | true =>
      simp only [if_true]
      refine wpAny_bind ?_
      refine wpAny_updateSeq hS' rfl (wpAny_bind (wpAny_letGo ?_))
      rw [hname]
      refine wpAny_pure ⟨plainId_quiet F.plain_max_loop _,ih (j+1) _ v _ (by omega) hlt (W.frame _ _ _ hst' fun b hbf o e=>?_) (by simp only [argBest,hb,if_true]; exact hP) (Heap.get?_update_self _ hS' rfl)
        fun v' h'' tk'' hP' hk''=>?_⟩
      · exact (Heap.get?_update_other _ _ (fun h:S=b=>hSf (by rw [h]; exact hbf))).trans e
      · exact hR v' h'' tk'' hP' fun b o hbw hbS e=>hk'' b o hbw hbS ((Heap.get?_update_other _ _ (Ne.symm hbS)).trans (hk' b o hbw e))
    | false =>
      simp only [Bool.false_eq_true,if_false]
      refine wpAny_bind (wpAny_letGo ?_)
      rw [hname]
      refine wpAny_pure ⟨plainId_quiet F.plain_max_loop _,ih (j+1) _ vb c (by omega) hlt hst' (by simp only [argBest,hb,Bool.false_eq_true,if_false]; exact hPb) hS' fun v' h'' tk'' hP' hk''=>?_⟩
      exact hR v' h'' tk'' hP' fun b o hbw hbS e=>hk'' b o hbw hbS (hk' b o hbw e)
theorem maxD_first (W:Walks prog w A.in1 I fp wr n P St) (bt:Nat→Nat→Bool) (hcmp:CmpOf prog w A.in1 .Gt P bt) (S:Addr) (hSf:S∉fp) (hn:0<n) {s:Shared} {c:Nat} (hst:St 0 s.heap)
    (hS:s.heap.get? S=some { cls:=.type "list", dict:=none,data:=.seq #[] c,slots:=#[] })
    (hR:∀ v h' tk,P (argBest bt (n-1)) v→(∀ b o,b∉wr→b≠S→s.heap.get? b=some o→h'.get? b=some o)→R (.ok (.ret v)) { s with heap:=h',toks:=tk }) :
    codeAny (model prog w) A (.builtin "max.loop" ⟨[.ref I,.none,.ref S],kw⟩) R s:=by
  have hSw:S∉wr:=fun h=>hSf (W.sub _ h)
  have hname:(toString "max" ++ toString ".loop" : String) = "max.loop" := by decide
  refine codeAny_builtin F.entry_max_loop ?_
  rw [Around.under_plainId F.plain_max_loop _]
  show wpAny _ A.in1 (seqItems? (.ref S) >>= _) _ _ s
  refine wpAny_bind (wpAny_seqItems hS rfl ?_)
  show wpAny _ A.in1 (tryCatch (pyNext (.ref I)) _ >>= _) _ _ s
  refine wpAny_bind (wpAny_tryCatch (W.item 0 s _ _ hn hst fun v h' tk hP hst' hk'=>?_))
  have hS':=hk' S _ hSw hS
  show wpAny _ A.in1 (updateSeq S (fun _=>#[v,v]) >>= _) _ _ _
  refine wpAny_bind ?_
  refine wpAny_updateSeq hS' rfl ?_
  rw [hname]
  refine wpAny_pure ⟨plainId_quiet F.plain_max_loop _,maxD_loop W bt hcmp S hSf _ 0 _ v _ rfl hn (W.frame _ _ _ hst' fun b hbf o e=>?_) hP (Heap.get?_update_self _ hS' rfl) fun v' h'' tk'' hP' hk''=>?_⟩
  · exact (Heap.get?_update_other _ _ (fun h:S=b=>hSf (by rw [h]; exact hbf))).trans e
  · exact hR v' h'' tk'' hP' fun b o hbw hbS e=>hk'' b o hbw hbS ((Heap.get?_update_other _ _ (Ne.symm hbS)).trans (hk' b o hbw e))
theorem maxD_empty (W:Walks prog w A.in1 I fp wr n P St) (S:Addr) (hSf:S∉fp) (hn:n=0) {s:Shared} {c:Nat} {d:Value} (hst:St 0 s.heap)
    (hS:s.heap.get? S=some { cls:=.type "list", dict:=none,data:=.seq #[] c,slots:=#[] })
    (hR:∀ h' tk,(∀ b o,b∉wr→s.heap.get? b=some o→h'.get? b=some o)→R (.ok (.ret d)) { s with heap:=h',toks:=tk }) :
    codeAny (model prog w) A (.builtin "max.loop" ⟨[.ref I,.none,.ref S],[("default", d)]⟩) R s:=by
  have hSw:S∉wr:=fun h=>hSf (W.sub _ h)
  refine codeAny_builtin F.entry_max_loop ?_
  rw [Around.under_plainId F.plain_max_loop _]
  show wpAny _ A.in1 (seqItems? (.ref S) >>= _) _ _ s
  refine wpAny_bind (wpAny_seqItems hS rfl ?_)
  show wpAny _ A.in1 (tryCatch (pyNext (.ref I)) _ >>= _) _ _ s
  subst hn
  refine wpAny_bind (wpAny_tryCatch (W.done s _ _ hst fun h' tk hk'=>?_))
  show wpAny _ A.in1 (rule _ >>= _) _ _ _
  exact wpAny_bind (wpAny_rule (wpAny_pure (hR h' tk hk')))
end
section
variable {prog:Program} {w:World} {A:Around} {E:Value→Shared→Prop} {s:Shared}
theorem args_maxD (a d:Value):argsOk "max" ⟨[a],[("default", d)]⟩:=by unfold argsOk; kernel_rfl
theorem call_function_treeK {id:String} {b:Builtin} {args:List Value} {kw:List (Str×Value)} {Q:Value→Shared→Prop} (hk:builtinKind id=none) (hp:plainId id=true)
    (hb:entryFor table id=some b) (ha:argsOk id ⟨args,kw⟩)
    (hc:wpAny (model prog w) A.in1 (b ⟨args,kw⟩) (fun fin s'=>match fin with
      | .done f=>(match (Except.ok f:Result) with | .ok (.ret v)=>Q v s' | .ok _=>False | .error e=>E e s')
      | .again c'=>c'.quiet=true∧codeAny (model prog w) A c' (fun r s'=>match r with | .ok (.ret v)=>Q v s' | .ok _=>False | .error e=>E e s') s') E s) :
    wpAny (model prog w) A (call (.builtin id) args kw) Q E s:=by
  refine wpAny_call (codeAny_call_builtin hp hb ?_)
  simp only [checkBuiltinCall,hk]
  cases hsig:Manifest.signature? id with
  | none=>exact wpAny_pure hc
  | some sig =>
    simp only [argsOk,hsig] at ha
    have h2:Bind.checkArgs id sig ⟨args,kw⟩=pure ():=ha
    show wpAny _ A.in1 (Bind.checkArgs id sig ⟨args,kw⟩) _ _ s
    rw [h2]; exact wpAny_pure hc
theorem call_maxD_walk {x d:Value} {Q:Value→Shared→Prop}
    (h:wpAny (model prog w) A.in1 (pyIter x) (fun it s₂=>∃ I fp wr n P St bt,it=.ref I∧Walks prog w A.in1 I fp wr n P St∧St 0 s₂.heap∧(∀ b∈fp,b<s₂.heap.objs.size)∧CmpOf prog w A.in1 .Gt P bt ∧
      (0<n→∀ v h' tk,P (argBest bt (n-1)) v→(∀ b o,b∉wr→s₂.heap.get? b=some o→h'.get? b=some o)→Q v { s₂ with heap:=h',toks:=tk }) ∧
      (n=0→∀ h' tk,(∀ b o,b∉wr→s₂.heap.get? b=some o→h'.get? b=some o)→Q d { s₂ with heap:=h',toks:=tk })) E s) :
    wpAny (model prog w) A (call (.builtin "max") [x] [("default", d)]) Q E s:=by
  have hname:(toString "max" ++ toString ".loop" : String) = "max.loop" := by decide
  refine call_function_treeK F.kind_max F.plain_max F.entry_max (args_maxD _ _) ?_
  show wpAny _ A.in1 (Builtin.Builtins.bindParams "max" ["key", "default"] 0 ⟨[],[("default", d)]⟩ >>= _) _ _ s
  refine wpAny_bind (wpAny_of_eq (show Builtin.Builtins.bindParams "max" ["key", "default"] 0 ⟨[],[("default", d)]⟩=pure [none,some d] from by with_unfolding_all rfl) ?_)
  refine wpAny_bind (wpAny_pure ?_)
  refine wpAny_bind (wpAny_mono h (fun it s₂ h₂=>?_) fun _ _ e=>e)
  obtain ⟨I,fp,wr,n,P,St,bt,rfl,W,hst,hfp,hcmp,hQ1,hQ0⟩:=h₂
  refine wpAny_bind (wpAny_newObj_type ?_)
  have hSf:s₂.heap.objs.size∉fp:=fun hm=>Nat.lt_irrefl _ (hfp _ hm)
  rw [hname]
  refine wpAny_pure ⟨plainId_quiet F.plain_max_loop _,?_⟩
  have hst':St 0 (s₂.heap.push { cls:=.type "list", data:=.seq #[] }):=W.frame _ _ _ hst fun b _ o e=>Heap.get?_push_of_some _ e
  rcases Nat.eq_zero_or_pos n with hn | hn
  · exact maxD_empty W s₂.heap.objs.size hSf hn hst' (Heap.get?_push_size _ rfl) fun h' tk hk=>hQ0 hn h' tk fun b o hbw e=>hk b o hbw (Heap.get?_push_of_some _ e)
  · exact maxD_first W bt hcmp s₂.heap.objs.size hSf hn hst' (Heap.get?_push_size _ rfl) fun v h' tk hP hk=>hQ1 hn v h' tk hP fun b o hbw e=>hk b o hbw (Nat.ne_of_lt (Heap.lt_size e)) (Heap.get?_push_of_some _ e)
end
section
variable {X:Cx}
theorem call_maxD (hc:X.calm=true):CallKR X (.builtin "max") ["default"] (fun xs zs H Q=>∃ (p:Addr) (ns:List Int) (d:V),xs=[.ref p]∧zs=[d]∧SqL X.K H p (ns.map V.int)∧(ns=[]→Q d H)∧∀ M,M∈ns→(∀ a,a∈ns→a≤M)→Q (.int M) H):=by
  intro pins s σ H xs zs us ws Q I r rz h
  obtain ⟨p,ns,d,rfl,rfl,hq,q0,q1⟩:=h
  obtain ⟨u,rfl,rx⟩:=vals1 r
  obtain ⟨dv,rfl,rd⟩:=vals1 rz
  cases rx
  obtain ⟨its,r',pl,hz⟩:=I.list hq
  have hi:=intsAre_of r'
  obtain ⟨ys,e⟩:=hi.allInts.items
  have hns:ns=ys.toList.map (·.1):=by
    rw [← hi.numsOf,← nums_intItems,← e]
  have hl:=pl.isList
  rw [e] at hl
  refine call_maxD_walk (iter_intList hl fun s₂ e st hfp hlI=>?_)
  subst e
  refine ⟨_,_,_,_,_,_,_,rfl,Walks.list (A:=X.A.in1) (I.ok.hd hc) _ p hlI (intItems ys),st,hfp,CmpOf.ints_gt (numAt ys) (fun _ _=>intItems_at),fun hn v h' tk hP hk=>?_,fun hn h' tk hk=>?_⟩
  · obtain ⟨t,rfl⟩:=intItems_at (by simpa [intItems] using hP)
    have hsz:0<ys.size:=by simpa [intItems] using hn
    obtain ⟨h1,h2⟩:=argBest_gt (numAt ys) (ys.size-1)
    refine ⟨.int _,H,I.kept (old_kept hk),⟨t,?_⟩,q1 (numAt ys (argBest (fun i j=>decide (numAt ys i > numAt ys j)) (ys.size-1))) ?_ fun a ha=>?_⟩
    · simp [intItems]
    · rw [hns,numAt_eq]; exact PySem.getD_mem (by rw [List.length_map,Array.length_toList]; omega)
    · rw [hns] at ha
      obtain ⟨j,hj,rfl⟩:=mem_getD ha
      rw [List.length_map,Array.length_toList] at hj
      rw [← numAt_eq]; exact h2 j (by omega)
  · have hz':ys.size=0:=by simpa [intItems] using hn
    have hn':ns=[]:=by rw [hns]; exact List.eq_nil_of_length_eq_zero (by rw [List.length_map,Array.length_toList]; exact hz')
    exact ⟨d,H,I.kept (old_kept hk),rd,q0 hn'⟩
end
section
variable {X:Cx}
end
theorem bt_len:bootBuiltins "len" = some (.builtin "len"):=by decide +kernel
theorem bt_max:bootBuiltins "max" = some (.builtin "max"):=by decide +kernel
theorem bt_min:bootBuiltins "min" = some (.builtin "min"):=by decide +kernel
theorem bt_sum:bootBuiltins "sum" = some (.builtin "sum"):=by decide +kernel
theorem bt_isinstance:bootBuiltins "isinstance" = some (.builtin "isinstance"):=by decide +kernel
theorem bt_sorted:bootBuiltins "sorted" = some (.builtin "sorted"):=by decide +kernel
theorem bt_int:bootBuiltins "int" = some (.type "int"):=by decide +kernel
theorem bt_bool:bootBuiltins "bool" = some (.type "bool"):=by decide +kernel
theorem bt_list:bootBuiltins "list" = some (.type "list"):=by decide +kernel
theorem bt_enumerate:bootBuiltins "enumerate" = some (.type "enumerate"):=by decide +kernel
theorem same_new {H:Hp} {a:Addr} {o:HO} (h:H a=none):Same H (upd H a o):=fun b u e=>by
  rw [upd_ne (ne_of_none e h)]
  exact e
theorem Paired.mono {α β:Type} {F G:α→β→Prop}:∀ {as:List α} {bs:List β},Paired F as bs→(∀ a b,a∈as→F a b→G a b)→Paired G as bs
  | _,_,.nil,_=>.nil
  | _,_,.cons r t,h=>.cons (h _ _ List.mem_cons_self r) (Paired.mono t fun a b m=>h a b (List.mem_cons_of_mem _ m))
theorem Paired.append {α β:Type} {F:α→β→Prop}:∀ {as cs:List α} {bs ds:List β},Paired F as bs→Paired F cs ds→Paired F (as++cs) (bs++ds)
  | _,_,_,_,.nil,s=>s
  | _,_,_,_,.cons r t,s=>.cons r (Paired.append t s)
section
variable {X:Cx} {K:PySem.W.Frag}
theorem op_in_seqK (h:X.K=K):OpR X (compareOp .In) (rIn K false):=by subst h; exact op_in_seq
theorem op_notIn_seqK (h:X.K=K):OpR X (compareOp .NotIn) (rIn K true):=by subst h; exact op_notIn_seq
theorem call_list_ofK (h:X.K=K):CallR X (.type "list") (fun xs H Q=>∃ p ys,xs=[.ref p]∧(SqL K H p ys∨SqT K H p ys)∧∀ l,H l=none→Q (.ref l) (upd H l (.lst ys))):=by subst h; exact call_list_of
theorem call_isiK (h:X.K=K):CallR X (.builtin "isinstance") (fun xs H Q=>∃ x n t b,xs=[x,.ty n]∧TyOf K H x t∧PySem.W.kitOne K t (.type n)=some b∧Q (.bl b) H):=by subst h; exact call_isi
theorem pt_truthK {a:Expr} {ta:TE} (h:X.K=K) (ha:PE X a ta) (he:∀ whole,isTrue a X.env whole=(do let v ← whole; standAt a.pos; holding [v] (truthy v))) :
    PT X a (fun σ H Q=>ta σ H fun x H'=>∃ k,TruV K x H' k∧Q k H'):=by subst h; exact pt_truth ha he
end
end L2
namespace L2
open PySem PySem.Spec PyProof.Rows
def Ite (K:PySem.W.Frag) (a:Addr):It :=
  ⟨fun i H=>∃ xs x,SqL K H a xs∧xs[i]?=some x,fun i H x H'=>∃ (t:Addr) (v:V),x=.ref t∧H t=none∧(∀ xs,SqL K H a xs→xs[i]?=some v)∧H'=upd H t (.tup [.int i,v]),fun i H=>∃ xs,SqL K H a xs∧xs.length≤i⟩
theorem turn_enum {P:Program} {w:World} {K:PySem.W.Frag} {elts:List Expr} {x1} {pos:Pos} (a e it:Addr) (hne:e≠it) :
    Turn P w K (.Tuple elts x1 pos) (Ite K a) [e,it] e (fun i h=>(∃ old,IsEnum h e it (i:Nat) old)∧h.IsListIter it a i) where
  mem:=by simp
  obj:=fun i h st b hb=>by
    obtain ⟨⟨old,he⟩,hit⟩:=st
    have hb':b=e∨b=it:=by simpa using hb
    rcases hb' with rfl | rfl
    · exact ⟨_,he,fun v z=>by
        have z':Data.fields _=Data.cell v:=z
        cases z'⟩
    · obtain ⟨o,ho,c,d⟩:=hit
      exact ⟨o,ho,fun v z=>by rw [d] at z; cases z⟩
  keep:=fun i h h' st k=>by
    obtain ⟨⟨old,he⟩,hit⟩:=st
    exact ⟨⟨old,k e (by simp) _ he⟩,hit.at fun o e=>k it (by simp) o e⟩
  item:=by
    intro X hP hw hK hc i pins s σ H E I hf st hg
    subst hP hw hK
    obtain ⟨⟨old,he⟩,hit⟩:=st
    obtain ⟨xs,x,hq,hx⟩:=hg
    obtain ⟨its,rv,p,hz⟩:=I.list hq
    obtain ⟨u,hu,ru⟩:=rv.get hx
    obtain ⟨f0,f1,f2,f3,f4,f5⟩:=hf e (by simp)
    obtain ⟨g0,g1,g2,g3,g4,g5⟩:=hf it (by simp)
    refine wpAny_pyNext_enum_item he hit p.isList (x:=u) (by simpa using hu) hne fun h₁ heo hit₁ ht₁ hz₁ hk₁=>⟨_,rfl,?_⟩
    refine wpAny_letOwnedTupleGo_enum heo fun h₂ he₂ hs₂=>?_
    replace hs₂:Heap.SameBut e h₁ h₂:=hs₂
    have hlt:e<s.heap.objs.size:=Heap.lt_size he
    have hilt:it<s.heap.objs.size:=by obtain ⟨o,ho,_⟩:=id hit; exact Heap.lt_size ho
    have k₂:∀ b o,b∉[e,it]→s.heap.get? b=some o→h₂.get? b=some o:=fun b o hb q=>by
      have b1:b≠e:=fun z=>hb (by simp [z])
      have b2:b≠it:=fun z=>hb (by simp [z])
      exact hs₂.extBut b o b1 (hk₁ b o b1 b2 q)
    have nit:∀ b u',H b=some u'→b∉[e,it]:=fun b u' q z=>by
      have z':b=e∨b=it:=by simpa using z
      rcases z' with rfl | rfl
      · rw [f0] at q; cases q
      · rw [g0] at q; cases q
    have I1:Inv X pins σ H { s with heap:=h₂,toks:=s.toks+1 }:=by
      refine I.step (g':=s.gens) (d':=s.drawn) (ch:=[e,it]) (fun b hb=>?_) (fun b o _ _ hc' q _=>k₂ b o hc' q) (fun b o _ _ hc' q _=>⟨o.slots,k₂ b o hc' q⟩) (fun _ _ _ _ n=>n)
        (fun b o hc' q=>⟨o,k₂ b o hc' q⟩) (fun _ _ q=>q) (fun _ _ _ q=>q) (fun b ps q=>⟨#[],by rw [q]; simp⟩) (fun m hm=>?_) (fun b u' q=>?_) I.bare
      · have z':b=e∨b=it:=by simpa using hb
        rcases z' with rfl | rfl
        · exact ⟨f3,f1,f4,f5⟩
        · exact ⟨g3,g1,g4,g5⟩
      · obtain ⟨o,es,ep,ho,r⟩:=hm
        exact ⟨o,es,ep,k₂ _ o (fun z=>by
          have z':X.env.locals=e∨X.env.locals=it:=by simpa using z
          rcases z' with z' | z'
          · exact f1 z'.symm
          · exact g1 z'.symm) ho,r⟩
      · refine (I.hok b u' q).stay (fun c v hc' q'=>k₂ c v ?_ q') (fun _ q'=>q') fun _ _ q'=>q'
        rcases hc' with z | z
        · rw [z]; exact nit b u' q
        · exact nit c _ z
    have nH:H s.heap.objs.size=none:=I.fresh
    have tup₂:h₂.get? s.heap.objs.size=some { cls:=.type "tuple", data:=.seq #[.int i s.toks,u] }:=hs₂.extBut _ _ (Nat.ne_of_gt hlt) ht₁
    have I2:Inv X pins σ (upd H s.heap.objs.size (.tup [.int i,x])) { s with heap:=h₂,toks:=s.toks+1 }:=by
      have ob:ObjOk X.prog X.w (upd H s.heap.objs.size (.tup [.int i,x])) h₂ s.heap.objs.size (.tup [.int i,x]) :=
        ⟨by simp only [List.length_cons,List.length_nil]; rw [sizeLine_eq]; decide,[.int i s.toks,u],.cons ⟨_,rfl⟩ (.cons ru .nil),⟨_,tup₂,rfl,_,rfl⟩⟩
      have hk:HOk X.prog X.w (upd H s.heap.objs.size (.tup [.int i,x])) h₂:=fun b u' q=>by
        by_cases hb:b=s.heap.objs.size
        · subst hb; rw [upd_same] at q; cases q; exact ob
        · rw [upd_ne hb] at q
          exact (I1.hok b u' q).stay (fun c v _ q'=>q') (fun c q'=>by rw [upd_ne (ne_of_none q' nH)]; exact q') fun c xs' q'=>by rw [upd_ne (ne_of_none q' nH)]; exact q'
      refine I.step (g':=s.gens) (d':=s.drawn) (ch:=[e,it]) (fun b hb=>?_) (fun b o _ _ hc' q _=>k₂ b o hc' q) (fun b o _ _ hc' q _=>⟨o.slots,k₂ b o hc' q⟩) (fun b o _ q n=>by rw [upd_ne (Nat.ne_of_lt (Heap.lt_size q))]; exact n)
        (fun b o hc' q=>⟨o,k₂ b o hc' q⟩) (fun b xs' q=>by rw [upd_ne (ne_of_none q nH)]; exact q) (fun b o u' q=>by rw [upd_ne (ne_of_none q nH)]; exact q) (fun b ps q=>⟨#[],by rw [upd_ne (ne_of_none q nH),q]; simp⟩) (fun m hm=>?_) hk I.bare
      · have z':b=e∨b=it:=by simpa using hb
        rcases z' with rfl | rfl
        · exact ⟨f3,f1,f4,f5⟩
        · exact ⟨g3,g1,g4,g5⟩
      · obtain ⟨o,es,ep,ho,r⟩:=hm
        exact ⟨o,es,ep,k₂ _ o (fun z=>by
          have z':X.env.locals=e∨X.env.locals=it:=by simpa using z
          rcases z' with z' | z'
          · exact f1 z'.symm
          · exact g1 z'.symm) ho,r⟩
    refine ⟨.ref s.heap.objs.size,_,I2,rfl,⟨_,x,rfl,nH,fun ys hy=>by rw [I.list_inj hy hq]; exact hx,rfl⟩,⟨⟨u,?_⟩,hit₁.extBut hs₂.extBut (Ne.symm hne)⟩,fun b hb=>?_⟩
    · have e1:((i+1:Nat):Int)=(i:Int)+1:=by push_cast; rfl
      rw [e1]
      exact he₂
    · have z':b=e∨b=it:=by simpa using hb
      rcases z' with rfl | rfl
      · rw [upd_ne (Nat.ne_of_lt hlt)]; exact f0
      · rw [upd_ne (Nat.ne_of_lt hilt)]; exact g0
  done:=by
    intro X hP hw hK hc i pins s σ H E I hf st hg
    subst hP hw hK
    obtain ⟨⟨old,he⟩,hit⟩:=st
    obtain ⟨xs,hq,hx⟩:=hg
    obtain ⟨its,rv,p,hz⟩:=I.list hq
    obtain ⟨g0,g1,g2,g3,g4,g5⟩:=hf it (by simp)
    have hl:=rv.length
    exact wpAny_pyNext_enum_end (I.ok.hd hc) he hit p.isList (by simp; omega) fun h' eb=>⟨rfl,I.turned (t':=s.toks) (fun b o hb e=>eb b o hb e) g0 g1 g3 g4 g5⟩
  self:=fun _ _ _ _ _ st h=>by
    obtain ⟨⟨old,he⟩,_⟩:=st
    exact wpAny_pyIter_enum he h
section
variable {X:Cx}
def iEnum (K:PySem.W.Frag) (tl:TE):TI:=fun σ H R=>tl σ H fun x H1=>∃ a,x=.ref a∧(∃ xs,SqL K H1 a xs)∧R (Ite K a) H1
theorem pi_enum {l:Expr} {tl:TE} {elts:List Expr} {x1} {tpos p pos:Pos} (hg:Gl X "enumerate") (hm:X.mg "enumerate" = none) (hl:PE X l tl) (hs:starEach [l] X.env=[(false,eval l X.env)]:=by rfl):PI X (.Tuple elts x1 tpos) (.Call (.Name "enumerate" p) [l] [] pos) (iEnum X.K tl):=by
  intro pins s σ H R I h
  have ha:PA X [l] (tCons tl tNil):=pa_cons hl pa_nil hs
  refine Call_ (ld_blt I hg hm bt_enumerate (PyProof.Rows.callWith_type1 (thn (ha pos pins s σ H (fun vs H1=>match vs with | [x]=>∃ a,x=.ref a∧(∃ xs,SqL X.K H1 a xs)∧R (Ite X.K a) H1 | _=>False) I h) fun us s1 ⟨vs,H1,I1,r1,q1⟩=>?_) hs rfl))
  · match vs,r1,q1 with
    | [x],r1,q1 =>
    obtain ⟨a,rfl,⟨xs,hq⟩,q⟩:=q1
    obtain ⟨u,rfl,ru⟩:=vals1 r1
    cases ru
    obtain ⟨its,rv,pl,hz⟩:=I1.list hq
    refine call_enumerate_list pl.isList fun h' he hit hz' hk=>?_
    refine wpAny_pyIter_enum he ?_
    have I2:Inv X pins σ H1 { s1 with heap:=h' }:=I1.kept (t':=s1.toks) hk
    refine ⟨s1.heap.objs.size+1,[s1.heap.objs.size+1,s1.heap.objs.size],_,_,H1,rfl,I2,turn_enum a _ _ (Nat.succ_ne_self _),⟨⟨_,he⟩,hit⟩,fun b hb=>?_,q⟩
    have z':b=s1.heap.objs.size+1∨b=s1.heap.objs.size:=by simpa using hb
    rcases z' with rfl | rfl
    · exact I1.fpOk (Nat.le_succ _) (I1.hok.fresh (Nat.le_succ _))
    · exact I1.fpOk (Nat.le_refl _) (I1.hok.fresh (Nat.le_refl _))
end
end L2
namespace L2
open PySem PySem.Spec PyProof.Rows
section
variable {prog:Program} {w:World} {A:Around} {E:Value→Shared→Prop}
theorem draw_list {it t:Addr} {items:Array Value} (hne:t≠it):∀ (n i:Nat) (s:Shared) (Q:List Value→Shared→Prop),s.heap.IsListIter it t i→s.heap.IsList t items→i+n≤items.size →
    (∀ h',h'.IsListIter it t (i+n)→Heap.SameBut it s.heap h'→Q ((items.toList.drop i).take n) { s with heap:=h' })→wpAny (model prog w) A (draw (.ref it) n) Q E s
  | 0,i,s,Q,hit,_,_,hQ=>by
    show wpAny _ _ (pure []) Q E s
    exact wpAny_pure (by simpa using hQ s.heap hit (Heap.SameBut.refl ..))
  | n+1,i,s,Q,hit,ht,hle,hQ=>by
    have hlt:i<items.size:=by omega
    show wpAny _ _ (pyNext (.ref it) >>= _) Q E s
    refine wpAny_bind (wpAny_pyNext_list_item hit ht (x:=items[i]) (by simp [hlt]) fun h₁ hit₁ hs₁=>?_)
    refine wpAny_bind (wpAny_holding (draw_list hne n (i+1) _ _ hit₁ (ht.extBut hs₁.extBut hne) (by omega) fun h₂ hit₂ hs₂=>wpAny_pure ?_))
    have hd:items.toList.drop i=items[i]::items.toList.drop (i+1):=by simp [List.drop_eq_getElem_cons,hlt]
    have:=hQ h₂ (by rw [show i+(n+1)=i+1+n by omega]; exact hit₂) (hs₁.trans hs₂)
    rw [hd,List.take_succ_cons] at this
    exact this
theorem unpackItems_list {s:Shared} {t:Addr} {items:Array Value} {Q:List Value→Shared→Prop} (hh:A.handled=none) (ht:s.heap.IsList t items)
    (hQ:∀ h',Heap.ExtBut s.heap.objs.size s.heap h'→Q items.toList { s with heap:=h' }):wpAny (model prog w) A (unpackItems (.ref t) items.size none) Q E s:=by
  have hlt:t≠s.heap.objs.size:=by obtain ⟨o,ho,_⟩:=ht; exact Nat.ne_of_lt (Heap.lt_size ho)
  unfold unpackItems
  refine wpAny_bind ?_
  · unfold notIterableAtAll
    refine wpAny_bind (wpAny_specialOf ht.typeIs F.slot_list_iter.lookup ?_)
    refine wpAny_pure ?_
    simp only [Bool.false_eq_true,if_false]
    refine wpAny_bind (wpAny_holding (wpAny_pyIter_list ht ?_))
    refine wpAny_bind (wpAny_holding (draw_list hlt items.size 0 _ _ ⟨_,Heap.get?_push_size _ rfl,rfl,rfl⟩ (ht.push _) (by omega) fun h₁ hit₁ hs₁=>?_))
    have hall:List.take items.size (List.drop 0 items.toList)=items.toList:=by
      rw [List.drop_zero]; exact List.take_of_length_le (by simp)
    rw [hall]
    rw [if_neg (by simp)]
    have ht₁:h₁.IsList t items:=(ht.push _).extBut hs₁.extBut hlt
    refine wpAny_bind (wpAny_holding (wpAny_pyNext_list_end hh hit₁ ht₁ (by simp) fun h₂ he₂=>?_))
    simp only [Option.isSome_none,Bool.false_eq_true,if_false]
    refine wpAny_pure (hQ h₂ fun b o hb e=>he₂ b o hb (hs₁.extBut b o hb (Heap.get?_push_of_some _ e)))
theorem assign_Tuple_list {s:Shared} {env:Env} {elts:List Expr} {x1} {pos:Pos} {t:Addr} {items:Array Value} {Q:Unit→Shared→Prop} (hh:A.handled=none) (ht:s.heap.IsList t items)
    (hn:(assignEach elts env).length=items.size) (hstar:(assignEach elts env).findIdx? (·.1)=none)
    (h:∀ h',Heap.ExtBut s.heap.objs.size s.heap h'→wpAny (model prog w) A (assignInOrder ((assignEach elts env).map (·.2)) items.toList) Q E { s with heap:=h' }) :
    wpAny (model prog w) A (assign (.Tuple elts x1 pos) env (.ref t)) Q E s:=by
  rw [arm_assign_Tuple]
  refine wpAny_bind (wpAny_standAt ?_)
  unfold unpack
  rw [hn,hstar]
  exact wpAny_bind (wpAny_holding (unpackItems_list hh ht h))
end
section
variable {X:Cx} {pos:Pos}
def gLst (K:PySem.W.Frag) (n:Nat) (t:TGs):TG:=fun v σ H Q=>∃ a xs,v=.ref a∧SqL K H a xs∧xs.length=n∧t xs σ H Q
theorem pg_lst {es:List Expr} {k:Nat} {t:TGs} {n:Nat} (hc:X.calm=true) (h:PGs X es t)
    (hn:(assignEach es X.env).length=n:=by rfl) (hst:(assignEach es X.env).findIdx? (·.1)=none:=by rfl):PG X (.Tuple es k pos) (gLst X.K n t):=by
  intro pins s σ H v u Q I r hw
  obtain ⟨a,xs,e1,hq,hl,hw⟩:=hw
  subst e1
  cases r
  obtain ⟨its,rv,ht,hz⟩:=I.list hq
  refine assign_Tuple_list (I.ok.hd hc) ht.isList (by simp [hn,← hl,rv.length]) hst fun h' hx=>?_
  have I1:Inv X pins σ H { s with heap:=h' }:=I.kept (t':=s.toks) fun b o e=>hx b o (Nat.ne_of_lt (Heap.lt_size e)) e
  exact h pins _ σ H xs _ Q I1 (by simpa using rv) hw
end
end L2
namespace L2
open PySem PySem.Spec PyProof.Rows
section
variable {κ:Type} [DecidableEq κ]
def valV (kvs:List (κ×V)) (k:κ):Option V:=(kvs.find? fun kv=>decide (kv.1=k)).map (·.2)
def putK (kvs:List (κ×V)) (k:κ) (v:V):List (κ×V) :=
  if (kvs.any fun kv=>decide (kv.1=k))=true then kvs.map (fun kv=>if kv.1=k then (kv.1,v) else kv) else kvs++[(k,v)]
theorem valV_pos {p:κ×V} {r:List (κ×V)} {k:κ} (e:p.1=k):valV (p::r) k=some p.2:=by simp [valV,List.find?_cons,e]
theorem valV_neg {p:κ×V} {r:List (κ×V)} {k:κ} (e:¬ p.1=k):valV (p::r) k=valV r k:=by simp [valV,List.find?_cons,e]
theorem valV_any (k:κ):∀ kvs:List (κ×V),(kvs.any fun kv=>decide (kv.1=k))=(valV kvs k).isSome
  | []=>rfl
  | p::r=>by
    rw [List.any_cons]
    by_cases e:p.1=k
    · simp only [valV_pos e,decide_eq_true e,Bool.true_or,Option.isSome_some]
    · rw [valV_neg e,decide_eq_false e,Bool.false_or]; exact valV_any k r
theorem length_putK (kvs:List (κ×V)) (k:κ) (v:V):(putK kvs k v).length≤kvs.length+1:=by
  unfold putK
  split
  · rw [List.length_map]; omega
  · rw [List.length_append,List.length_cons,List.length_nil]; omega
theorem RelO.isSome_eq {o:Option V} {u:Option Value} (r:RelO o u):o.isSome=u.isSome:=by
  cases o with
  | none=>cases u with
    | none=>rfl
    | some _=>exact (show False from r).elim
  | some _=>cases u with
    | none=>exact (show False from r).elim
    | some _=>rfl
theorem KV.val {kvs:List (κ×V)} {vs:List (κ×Value)} (r:KV kvs vs) (k:κ):RelO (valV kvs k) (valueAt vs k):=by
  unfold KV at r
  induction r with
  | nil=>exact True.intro
  | @cons p q ps qs h t ih =>
    obtain ⟨h1,h2⟩:=h
    by_cases e:p.1=k
    · have e':q.1=k:=h1.symm.trans e
      have b:valueAt (q::qs) k=some q.2:=by simp [valueAt,List.find?_cons,e']
      rw [valV_pos e,b]; exact h2
    · have e':¬ q.1=k:=fun z=>e (h1.trans z)
      have b:valueAt (q::qs) k=valueAt qs k:=by simp [valueAt,List.find?_cons,e']
      rw [valV_neg e,b]; exact ih
theorem KV.any {kvs:List (κ×V)} {vs:List (κ×Value)} (r:KV kvs vs) (k:κ):(kvs.any fun kv=>decide (kv.1=k))=vs.any fun kv=>decide (kv.1=k):=by
  unfold KV at r
  induction r with
  | nil=>rfl
  | cons h t ih=>rw [List.any_cons,List.any_cons,ih,h.1]
theorem KV.repl {kvs:List (κ×V)} {vs:List (κ×Value)} (r:KV kvs vs) (k:κ) {y:V} {u:Value} (ry:RelV y u) :
    KV (kvs.map fun kv=>if kv.1=k then (kv.1,y) else kv) (vs.map fun kv=>if kv.1=k then (kv.1,u) else kv):=by
  unfold KV at r ⊢
  induction r with
  | nil=>exact .nil
  | @cons p q ps qs h t ih =>
    rw [List.map_cons,List.map_cons]
    refine .cons ?_ ih
    obtain ⟨h1,h2⟩:=h
    by_cases e:p.1=k
    · rw [if_pos e,if_pos (h1.symm.trans e)]; exact ⟨h1,ry⟩
    · rw [if_neg e,if_neg (fun z=>e (h1.trans z))]; exact ⟨h1,h2⟩
theorem KV.put {kvs:List (κ×V)} {vs:List (κ×Value)} (r:KV kvs vs) (k:κ) {y:V} {u:Value} (ry:RelV y u):KV (putK kvs k y) (stored vs k u):=by
  unfold putK stored
  rw [r.any k]
  by_cases e:(vs.any fun kv=>decide (kv.1=k))=true
  · rw [if_pos e,if_pos e]; exact r.repl k ry
  · rw [if_neg e,if_neg e]; exact Paired.snoc r ⟨rfl,ry⟩
theorem KV.length {kvs:List (κ×V)} {vs:List (κ×Value)} (r:KV kvs vs):kvs.length=vs.length:=Paired.length r
end
theorem kV_is {P:Program} {w:World} {k:Key} {u:Value} (r:RelV (kV k) u):(mixKind P w).is k u=true:=by
  cases k with
  | inl i=>obtain ⟨t,e⟩:=(show ∃ t,u=Value.int i t from r); subst e; exact mixKind_int P w i t
  | inr x=>obtain ⟨t,e⟩:=(show ∃ t,u=Value.str x t from r); subst e; exact mixKind_str P w x t
theorem items_are {P:Program} {w:World}:∀ {ks:List Key} {us:List Value},Vals (ks.map kV) us→ItemsAre (mixKind P w) ks us
  | [],_,r=>by rw [List.map_nil] at r; cases r; exact .nil
  | k::ks,_,r=>by
    rw [List.map_cons] at r
    cases r with
    | cons h t=>exact .cons (kV_is h) (items_are t)
abbrev KT (H:Hp):List (List Key×V)→List (List Key×Addr×Value)→Prop:=Paired fun p q=>p.1=q.1∧H q.2.1=some (.tup (p.1.map kV))∧RelV p.2 q.2.2
theorem KT.val {H:Hp} {kvs:List (List Key×V)} {xs:List (List Key×Addr×Value)} (r:KT H kvs xs) (k:List Key):RelO (valV kvs k) ((atKey xs k).map (·.2)):=by
  induction r with
  | nil=>exact True.intro
  | @cons p q ps qs h t ih =>
    obtain ⟨h1,_,h2⟩:=h
    by_cases e:p.1=k
    · have e':q.1=k:=h1.symm.trans e
      have b:atKey (q::qs) k=some q.2:=by simp [atKey,List.find?_cons,e']
      rw [valV_pos e,b]; exact h2
    · have e':¬ q.1=k:=fun z=>e (h1.trans z)
      have b:atKey (q::qs) k=atKey qs k:=by simp [atKey,List.find?_cons,e']
      rw [valV_neg e,b]; exact ih
theorem KT.repl {H:Hp} {kvs:List (List Key×V)} {xs:List (List Key×Addr×Value)} (r:KT H kvs xs) (k:List Key) {y:V} {u:Value} (ry:RelV y u) :
    KT H (kvs.map fun kv=>if kv.1=k then (kv.1,y) else kv) (xs.map (putAt k u)):=by
  induction r with
  | nil=>exact .nil
  | @cons p q ps qs h t ih =>
    rw [List.map_cons,List.map_cons]
    refine .cons ?_ ih
    obtain ⟨h1,h2,h3⟩:=h
    unfold putAt
    by_cases e:p.1=k
    · rw [if_pos e,if_pos (h1.symm.trans e)]; exact ⟨h1,h2,ry⟩
    · rw [if_neg e,if_neg (fun z=>e (h1.trans z))]; exact ⟨h1,h2,h3⟩
theorem KT.put {H:Hp} {kvs:List (List Key×V)} {xs:List (List Key×Addr×Value)} (r:KT H kvs xs) (k:List Key) {b:Addr} {y:V} {u:Value} (hb:H b=some (.tup (k.map kV))) (ry:RelV y u) :
    KT H (putK kvs k y) (storedH xs k b u):=by
  have e:(kvs.any fun kv=>decide (kv.1=k))=(atKey xs k).isSome:=by
    rw [valV_any,(r.val k).isSome_eq,Option.isSome_map]
  unfold putK storedH
  rw [e]
  by_cases q:(atKey xs k).isSome=true
  · rw [if_pos q,if_pos q]; exact r.repl k ry
  · rw [if_neg q,if_neg q]; exact Paired.snoc r ⟨rfl,hb,ry⟩
theorem KT.keeps {H H':Hp} {kvs:List (List Key×V)} {xs:List (List Key×Addr×Value)} (r:KT H kvs xs) (ht:∀ b ys,H b=some (.tup ys)→H' b=some (.tup ys)):KT H' kvs xs :=
  Paired.mapP r fun _ _ z=>⟨z.1,ht _ _ z.2.1,z.2.2⟩
section
variable {P:Program} {w:World} {H:Hp} {h:Heap} {a:Addr}
theorem rd_of {u:HO} (ok:HOk P w H h) (e:Rd H a u):ObjOk P w H h a u:=e.ok ok
theorem dk_rd {kvs:List (Key×V)} (ok:HOk P w H h) (e:Rd H a (.dK kvs)):kvs.length≤sizeLine∧(a==sysModules)=false∧∃ vs,KV kvs vs∧h.DictOf (mixKind P w) a vs :=
  show ObjOk P w H h a (.dK kvs) from rd_of ok e
theorem dk_of {kvs:List (Key×V)} (ok:HOk P w H h) (e:H a=some (.dK kvs)):kvs.length≤sizeLine∧(a==sysModules)=false∧∃ vs,KV kvs vs∧h.DictOf (mixKind P w) a vs:=dk_rd ok (.inl e)
theorem key_of {ks:List Key} (ok:HOk P w H h) (e:H a=some (.tup (ks.map kV))):(tupleKind (mixKind P w)).is h ks a:=by
  obtain ⟨_,its,r,o,h1,h2,n,h3⟩:=(show ObjOk P w H h a (.tup (ks.map kV)) from ok a _ e)
  exact ⟨o,its.toArray,n,h1,h2,h3,by simpa using items_are r⟩
theorem dt_rd {kvs:List (List Key×V)} (ok:HOk P w H h) (e:Rd H a (.dT kvs)):kvs.length≤sizeLine∧(a==sysModules)=false ∧
    ∃ xs,KT H kvs xs∧h.DictOfH (tupleKind (mixKind P w)) a xs:=by
  obtain ⟨z,y,xs,r,o,es,ep,h1,h2,h3,h4,h5⟩:=(show ObjOk P w H h a (.dT kvs) from rd_of ok e)
  refine ⟨z,y,xs,r,o,es,ep,h1,h2,h3,h4,fun x hx=>?_,h5⟩
  have all:∀ {l:List (List Key×V)} {m:List (List Key×Addr×Value)},KT H l m→∀ x∈m,(tupleKind (mixKind P w)).is h x.1 x.2.1:=by
    intro l m q
    induction q with
    | nil=>intro x hx; exact nomatch hx
    | @cons p q ps qs hq t ih =>
      intro x hx
      rcases List.mem_cons.mp hx with e | hx
      · subst e
        exact key_of ok (by rw [← hq.1]; exact hq.2.1)
      · exact ih x hx
  exact all r x hx
theorem dt_of {kvs:List (List Key×V)} (ok:HOk P w H h) (e:H a=some (.dT kvs)):kvs.length≤sizeLine∧(a==sysModules)=false ∧
    ∃ xs,KT H kvs xs∧h.DictOfH (tupleKind (mixKind P w)) a xs:=dt_rd ok (.inl e)
end
def DGet (H:Hp) (a:Addr) (y:V) (r:Option V):Prop :=
  (∃ kvs k,Rd H a (.dK kvs)∧y=kV k∧r=valV kvs k)∨∃ kvs k b,Rd H a (.dT kvs)∧y=.ref b∧H b=some (.tup (k.map kV))∧r=valV kvs k
def DPut (H:Hp) (a:Addr) (y v:V) (H':Hp):Prop :=
  (∃ kvs k,H a=some (.dK kvs)∧y=kV k∧kvs.length<sizeLine∧H'=upd H a (.dK (putK kvs k v))) ∨
  ∃ kvs k b,H a=some (.dT kvs)∧y=.ref b∧H b=some (.tup (k.map kV))∧kvs.length<sizeLine∧H'=upd H a (.dT (putK kvs k v))
theorem DGet.k {H:Hp} {a:Addr} {kvs:List (Key×V)} {k:Key} (e:H a=some (.dK kvs)):DGet H a (kV k) (valV kvs k):=.inl ⟨kvs,k,.inl e,rfl,rfl⟩
theorem DPut.k {H:Hp} {a:Addr} {kvs:List (Key×V)} {k:Key} {v:V} (e:H a=some (.dK kvs)) (hl:kvs.length<sizeLine):DPut H a (kV k) v (upd H a (.dK (putK kvs k v))):=.inl ⟨kvs,k,e,rfl,hl,rfl⟩
section
variable {X:Cx} {pins:List (Addr×Obj)} {σ:St} {H:Hp} {s:Shared} {a:Addr} {y v:V} {u r:Value} {o:Option V} {A:Around} {E:Value→Shared→Prop}
theorem Inv.big (I:Inv X pins σ H s):sysModules<s.heap.objs.size:=by
  have h:mainGlobals<s.heap.objs.size:=(I.mod.glob.keeps I.bk).lt
  exact Nat.lt_trans (by decide) h
theorem d_getItem {Q:Value→Shared→Prop} (hu:A.units+1<cLine) (I:Inv X pins σ H s) (g:DGet H a y (some v)) (ry:RelV y u) (h:∀ w' s',Inv X pins σ H s'→RelV v w'→Q w' s') :
    wpAny (model X.prog X.w) A (getItem (.ref a) u) Q E s:=by
  rcases g with ⟨kvs,k,e,ey,l⟩ | ⟨kvs,k,b,e,ey,eb,l⟩
  · subst ey
    obtain ⟨z,hd,vs,rel,dd⟩:=dk_rd I.hok e
    obtain ⟨w',hw,rw'⟩:=RelO.some_of (v:=v) (o:=valueAt vs k) (by rw [l]; exact rel.val k)
    exact wpAny_getItem_of (kV_is ry) dd.mapOf hw (h w' _ (I.tok _) rw')
  · subst ey
    cases (show u=Value.ref b from ry)
    obtain ⟨z,hd,xs,rel,dd⟩:=dt_rd I.hok e
    obtain ⟨w',hw,rw'⟩:=RelO.some_of (v:=v) (o:=(atKey xs k).map (·.2)) (by rw [l]; exact rel.val k)
    obtain ⟨p,hp,hp2⟩:=Option.map_eq_some_iff.mp hw
    refine wpAny_getItem_heap (tupleKind_room_in1 hu) (key_of I.hok eb) dd hp ?_
    rw [hp2]
    exact h w' _ (I.tok _) rw'
theorem d_in {Q:Value→Shared→Prop} (hu:A.units+1<cLine) (I:Inv X pins σ H s) (g:DGet H a y o) (ry:RelV y u) (h:∀ s',Inv X pins σ H s'→Q (.bool o.isSome) s') :
    wpAny (model X.prog X.w) A (compareOp .In u (.ref a)) Q E s:=by
  rcases g with ⟨kvs,k,e,ey,l⟩ | ⟨kvs,k,b,e,ey,eb,l⟩
  · subst ey
    obtain ⟨z,hd,vs,rel,dd⟩:=dk_rd I.hok e
    refine wpAny_in_of (kV_is ry) hd dd.mapOf ?_
    rw [← (rel.val k).isSome_eq,← l]
    exact h _ (I.tok _)
  · subst ey
    cases (show u=Value.ref b from ry)
    obtain ⟨z,hd,xs,rel,dd⟩:=dt_rd I.hok e
    refine wpAny_in_heap (tupleKind_room_in1 hu) (key_of I.hok eb) hd dd ?_
    have q:=(rel.val k).isSome_eq
    rw [Option.isSome_map] at q
    rw [← q,← l]
    exact h _ (I.tok _)
theorem d_notIn {Q:Value→Shared→Prop} (hu:A.units+1<cLine) (I:Inv X pins σ H s) (g:DGet H a y o) (ry:RelV y u) (h:∀ s',Inv X pins σ H s'→Q (.bool (!o.isSome)) s') :
    wpAny (model X.prog X.w) A (compareOp .NotIn u (.ref a)) Q E s:=by
  rcases g with ⟨kvs,k,e,ey,l⟩ | ⟨kvs,k,b,e,ey,eb,l⟩
  · subst ey
    obtain ⟨z,hd,vs,rel,dd⟩:=dk_rd I.hok e
    refine wpAny_notIn_of (kV_is ry) hd dd.mapOf ?_
    rw [← (rel.val k).isSome_eq,← l]
    exact h _ (I.tok _)
  · subst ey
    cases (show u=Value.ref b from ry)
    obtain ⟨z,hd,xs,rel,dd⟩:=dt_rd I.hok e
    refine wpAny_notIn_heap (tupleKind_room_in1 hu) (key_of I.hok eb) hd dd ?_
    have q:=(rel.val k).isSome_eq
    rw [Option.isSome_map] at q
    rw [← q,← l]
    exact h _ (I.tok _)
theorem d_write {h':Heap} {t':Nat} {ob:HO} (I:Inv X pins σ H s) (mu:Mut (H a)) (hs:Heap.SameBut a s.heap h') (he:∃ q,h'.get? a=some q) (new:ObjOk X.prog X.w (upd H a ob) h' a ob) :
    Inv X pins σ (upd H a ob) { s with heap:=h',toks:=t' } :=
  I.write (x:=a) (e:=a) mu (.inl rfl) (fun b q hb z=>(hs.2 b hb).trans z) he new
theorem dk_new {P:Program} {w:World} {H':Hp} {h':Heap} {kvs:List (Key×V)} {vs:List (Key×Value)} (z:kvs.length≤sizeLine) (hd:(a==sysModules)=false) (rel:KV kvs vs) (dd:h'.DictOf (mixKind P w) a vs) :
    ObjOk P w H' h' a (.dK kvs):=⟨z,hd,vs,rel,dd⟩
theorem d_setItem {H':Hp} {Q:Unit→Shared→Prop} (hu:A.units+1<cLine) (I:Inv X pins σ H s) (g:DPut H a y v H') (ry:RelV y u) (rv:RelV v r) (h:∀ s',Inv X pins σ H' s'→Q () s') :
    wpAny (model X.prog X.w) A (setItem (.ref a) u r) Q E s:=by
  rcases g with ⟨kvs,k,e,ey,l,eH⟩ | ⟨kvs,k,b,e,ey,eb,l,eH⟩
  · subst ey eH
    obtain ⟨z,hd,vs,rel,dd⟩:=dk_of I.hok e
    have hz:vs.length≤sizeLine:=by rw [← rel.length]; exact z
    have hl:(putK kvs k v).length≤sizeLine:=by have:=length_putK kvs k v; omega
    refine wpAny_setItem_pairs (hsz:=hz) (kV_is ry) dd fun h' dd' hs=>h _ ?_
    have he:∃ q,h'.get? a=some q:=let ⟨q,_,_,hq,_⟩:=dd'; ⟨q,hq⟩
    exact d_write I (by rw [e]; exact True.intro) hs he (dk_new hl hd (rel.put k rv) dd')
  · subst ey eH
    cases (show u=Value.ref b from ry)
    obtain ⟨z,hd,xs,rel,dd⟩:=dt_of I.hok e
    have hz:xs.length≤sizeLine:=by rw [← Paired.length rel]; exact z
    have hl:(putK kvs k v).length≤sizeLine:=by have:=length_putK kvs k v; omega
    refine wpAny_setItem_heap (hsz:=hz) (tupleKind_room_in1 hu) (key_of I.hok eb) dd fun h' dd' hs=>h _ ?_
    obtain ⟨q,es,ep,hq,h2,h3,h4,_,h5⟩:=dd'
    refine d_write I (by rw [e]; exact True.intro) hs ⟨q,hq⟩ ⟨hl,hd,_,(rel.put k eb rv).keeps fun c ys ec=>?_,q,es,ep,hq,h2,h3,h4,h5⟩
    rw [upd_ne (ne_of ec e (fun z=>nomatch z))]
    exact ec
end
section
variable {X:Cx} {pins:List (Addr×Obj)} {σ:St} {H:Hp} {s:Shared} {a:Addr} {kvs:List (Key×V)} {k:Key} {u:Value} {A:Around} {E:Value→Shared→Prop}
end
def NoSl (i:Expr):Prop:=∀ ov iv,subscripted i false ov iv=operate [ov,iv] (getItem ov iv)
theorem subD_of {prog:Program} {w:World} {A:Around} {E:Value→Shared→Prop} {s:Shared} {env:Env} {value slice:Expr} {pos:Pos} {T id:String} {Q:Value→Shared→Prop}
    (hl:typeLookup (.type T) "__getitem__" = pure (some (.builtin id))) (hs:NoSl slice)
    (h:wpAny (model prog w) A (eval value env) (fun o s₁=>wpAny (model prog w) A (eval slice env) (fun i s₂=>s₂.TypeIs o T∧wpAny (model prog w) A (getItem o i) Q E s₂) E s₁) E s) :
    wpAny (model prog w) A (eval (.Subscript value slice pos) env) Q E s:=by
  refine Subscript_ (wpAny_mono h (fun o s₁ h₁=>wpAny_mono h₁ (fun i s₂ h₂=>?_) fun _ _ x=>x) fun _ _ x=>x)
  obtain ⟨hT,h₂⟩:=h₂
  unfold subscriptTail
  refine wpAny_bind ?_
  rw [getitemInPython_of_ne hT.not_modules]
  refine wpAny_bind (wpAny_specialOf hT hl ?_)
  have fin:wpAny (model prog w) A (subscripted slice false o i) (fun r s₃=>wpAny (model prog w) A (letTemporaryGo value o r >>= fun _=>pure r) Q E s₃) E s₂:=by
    rw [hs o i]
    exact wpAny_operating (wpAny_mono h₂ (fun r s₃ h₃=>wpAny_bind (wpAny_letTemporaryGo (wpAny_pure h₃))) fun _ _ x=>x)
  first
    | exact wpAny_pure (wpAny_bind fin)
    | exact wpAny_bind (wpAny_pure (wpAny_bind fin))
    | exact wpAny_bind fin
theorem dict_typeIs {X:Cx} {pins:List (Addr×Obj)} {σ:St} {H:Hp} {s:Shared} {a:Addr} {y:V} {o:Option V} (I:Inv X pins σ H s) (g:DGet H a y o):s.TypeIs (.ref a) "dict" := by
  rcases g with ⟨kvs,k,e,_,_⟩ | ⟨kvs,k,b,e,_,_,_⟩
  · obtain ⟨_,_,vs,_,dd⟩:=dk_rd I.hok e
    exact dd.typeIs
  · obtain ⟨_,_,xs,_,dd⟩:=dt_rd I.hok e
    exact dd.typeIs
def tDGet (td ty:TE):TE:=fun σ H Q=>td σ H fun x H1=>ty σ H1 fun y H2=>∃ a v,x=.ref a∧DGet H2 a y (some v)∧Q v H2
def tDIn (ty td:TE):TE:=fun σ H Q=>ty σ H fun y H1=>td σ H1 fun x H2=>∃ a o,x=.ref a∧DGet H2 a y o∧Q (.bl o.isSome) H2
def tDNotIn (ty td:TE):TE:=fun σ H Q=>ty σ H fun y H1=>td σ H1 fun x H2=>∃ a o,x=.ref a∧DGet H2 a y o∧Q (.bl (!o.isSome)) H2
def sDPut (td ty tv:TE):TS:=fun D σ H=>tv σ H fun v H1=>td σ H1 fun x H2=>ty σ H2 fun y H3=>∃ a H4,x=.ref a∧DPut H3 a y v H4∧D.nx σ H4
section
variable {X:Cx} {o i e value:Expr} {pos pos' tpos:Pos} {td ty tv:TE}
theorem pe_dget (hu:X.A.units+1<cLine) (ho:PE X o td) (hi:PE X i ty) (hs:NoSl i):PE X (.Subscript o i pos) (tDGet td ty):=by
  intro pins s σ H Q I h
  refine subD_of PySem.F.slot_dict_getitem.lookup hs (thn (ho pins s σ H _ I h) fun u s1 ⟨x,H1,I1,rx,q1⟩=>thn (hi pins s1 σ H1 _ I1 q1) fun iv s2 ⟨y,H2,I2,ry,a,v,ex,g,q2⟩=>?_)
  subst ex
  obtain rfl:u=Value.ref a:=rx
  exact ⟨dict_typeIs I2 g,d_getItem hu I2 g ry fun w' s3 I3 rw'=>⟨v,H2,I3,rw',q2⟩⟩
theorem pc_din (hu:X.A.units+1<cLine) (hi:PE X i ty) (ho:PE X o td):PC X .In i o (tDIn ty td):=by
  intro pins s σ H Q I h
  refine thn (hi pins s σ H _ I h) fun iv s1 ⟨y,H1,I1,ry,q1⟩=>thn (ho pins s1 σ H1 _ I1 q1) fun u s2 ⟨x,H2,I2,rx,a,ov,ex,g,q2⟩=>?_
  subst ex
  obtain rfl:u=Value.ref a:=rx
  exact d_in hu I2 g ry fun s3 I3=>⟨.bl ov.isSome,H2,I3,rfl,q2⟩
theorem pc_dnotin (hu:X.A.units+1<cLine) (hi:PE X i ty) (ho:PE X o td):PC X .NotIn i o (tDNotIn ty td):=by
  intro pins s σ H Q I h
  refine thn (hi pins s σ H _ I h) fun iv s1 ⟨y,H1,I1,ry,q1⟩=>thn (ho pins s1 σ H1 _ I1 q1) fun u s2 ⟨x,H2,I2,rx,a,ov,ex,g,q2⟩=>?_
  subst ex
  obtain rfl:u=Value.ref a:=rx
  exact d_notIn hu I2 g ry fun s3 I3=>⟨.bl (!ov.isSome),H2,I3,rfl,q2⟩
theorem ps_dput (hu:X.A.units+1<cLine) (ho:PE X o td) (hi:PE X i ty) (hv:PE X value tv) (hs:swapsWith value (some (.Subscript o i pos')) pos.line X.env=pure false) :
    PS X (.Assign [.Subscript o i pos'] value pos) (sDPut td ty tv):=by
  intro pins s σ H D I h
  refine wpAny_Assign_Subscript (thn (hv pins s σ H _ I h) fun r s1 ⟨v,H1,I1,rv,q1⟩=>thn (ho pins s1 σ H1 _ I1 q1) fun u s2 ⟨x,H2,I2,rx,q2⟩=>thn (hi pins s2 σ H2 _ I2 q2) fun iv s3 ⟨y,H3,I3,ry,a,H4,ex,g,q3⟩=>?_) hs
  subst ex
  obtain rfl:u=Value.ref a:=rx
  exact d_setItem hu I3 g ry rv fun s4 I4=>⟨σ,H4,I4,q3⟩
end
theorem dk_empty {P:Program} {w:World} {H:Hp} (h:Heap) (hb:sysModules<h.objs.size):ObjOk P w H (h.push { cls:=.type "dict", data:=.dict #[] }) h.objs.size (.dK []) :=
  ⟨Nat.zero_le _,beq_eq_false_iff_ne.mpr (Ne.symm (Nat.ne_of_lt hb)),[],.nil,Heap.DictOf.new h⟩
def tDNewK:TE:=fun _ H Q=>∀ p,H p=none→Q (.ref p) (upd H p (.dK []))
section
variable {X:Cx} {pos:Pos}
theorem pe_dnewK:PE X (.Dict [] [] pos) tDNewK:=fun pins s σ H Q I h =>
  wpAny_Dict_empty ⟨.ref s.heap.objs.size,_,I.laid (a:=s.heap.objs.size) (o:=.dK []) (t':=s.toks) (fun _ _ q=>Heap.get?_push_of_some _ q) (Nat.le_refl _) (dk_empty s.heap I.big),rfl,h _ (I.hok.fresh (Nat.le_refl _))⟩
end
structure M1 (X:Cx) (o:Expr) (m:Str) (apos:Pos) (e:Expr) (cpos:Pos):Prop where
  base:attributeBase o m X.env (eval o X.env)=eval o X.env
  few:((backTo cpos (starEach [e] X.env)).all (fun x=>!x.1)&&(backToKw cpos (keywordEach [] X.env)).all (fun x=>x.1.isSome)
    && decide (([e]:List Expr).length+([]:List Keyword).length+(if ([]:List Keyword).isEmpty then 0 else 1)<30))=true
  line:(apos.endLine==cpos.line)=true
  trees:backTo cpos (starEach [e] X.env)=[(false,eval e X.env)]
structure M2 (X:Cx) (o:Expr) (m:Str) (apos:Pos) (e f:Expr) (cpos:Pos):Prop where
  base:attributeBase o m X.env (eval o X.env)=eval o X.env
  few:((backTo cpos (starEach [e,f] X.env)).all (fun x=>!x.1)&&(backToKw cpos (keywordEach [] X.env)).all (fun x=>x.1.isSome)
    && decide (([e,f]:List Expr).length+([]:List Keyword).length+(if ([]:List Keyword).isEmpty then 0 else 1)<30))=true
  line:(apos.endLine==cpos.line)=true
  trees:backTo cpos (starEach [e,f] X.env)=[(false,eval e X.env),(false,eval f X.env)]
section
variable {X:Cx} {pins:List (Addr×Obj)} {σ:St} {H:Hp} {s:Shared} {a:Addr} {y d:V} {u r:Value} {o:Option V} {A:Around} {E:Value→Shared→Prop}
end
section
variable {X:Cx} {o e f:Expr} {apos cpos:Pos} {td ty tx:TE}
end
section
variable {X:Cx} {pins:List (Addr×Obj)} {σ:St} {H:Hp} {s:Shared} {a:Addr} {kvs:List (Key×V)} {A:Around} {E:Value→Shared→Prop}
end
section
variable {X:Cx} {pins:List (Addr×Obj)} {σ:St} {H:Hp} {s:Shared} {a:Addr} {y:V} {u:Value} {A:Around} {E:Value→Shared→Prop}
end
end L2
namespace VL
open PySem L2
open Classical
inductive D where
  | non | bl (b:Bool) | int (i:Int) | str (x:Str) | ty (n:String)
  | lst (xs:List D) | tup (xs:List D) | ins (C:Addr) | scr (ns:List Int) | dct (kvs:List (Int×Int))
def dkv (p:Int×Int):Key×V:=(.inl p.1,.int p.2)
abbrev No:Addr→Prop:=fun _=>False
def KL (K:PySem.W.Frag) (a:Addr) (xs:List V):Prop :=
  ∃ (o:Obj) (its:Array Value) (n:Nat),K.lookup a=some o∧o.cls=.type "list" ∧ o.dict=none∧o.data=.seq its n∧its.size≤sizeLine∧Vals xs its.toList
mutual
inductive Is (K:PySem.W.Frag) (H:Hp) (Z:Addr→Prop):V→D→Prop
  | non:Is K H Z .non .non
  | bl (b:Bool):Is K H Z (.bl b) (.bl b)
  | int (i:Int):Is K H Z (.int i) (.int i)
  | str (x:Str):Is K H Z (.str x) (.str x)
  | ty (n:String):Is K H Z (.ty n) (.ty n)
  | lst {a:Addr} {vs:List V} {ds:List D} (hz:¬ Z a) (h:Rd H a (.lst vs)) (hl:vs.length≤sizeLine) (r:IsL K H Z vs ds):Is K H Z (.ref a) (.lst ds)
  | tup {a:Addr} {vs:List V} {ds:List D} (hz:¬ Z a) (h:H a=some (.tup vs)) (hl:vs.length≤sizeLine) (r:IsL K H Z vs ds):Is K H Z (.ref a) (.tup ds)
  | ins {a C dx:Addr} (hz:¬ Z a) (h:H a=some (.ins C dx [])):Is K H Z (.ref a) (.ins C)
  | dct {a:Addr} {kvs:List (Int×Int)} (hz:¬ Z a) (h:Rd H a (.dK (kvs.map dkv))) (hl:kvs.length≤sizeLine):Is K H Z (.ref a) (.dct kvs)
  | scr {a:Addr} {ns:List Int} (hz:¬ Z a) (h:Rd H a (.lst (ns.map V.int))) (hl:ns.length≤sizeLine):Is K H Z (.ref a) (.scr ns)
  | scrK {a:Addr} {ns:List Int} (h:KL K a (ns.map V.int)) (hl:ns.length≤sizeLine):Is K H Z (.ref a) (.scr ns)
inductive IsL (K:PySem.W.Frag) (H:Hp) (Z:Addr→Prop):List V→List D→Prop
  | nil:IsL K H Z [] []
  | cons {v:V} {d:D} {vs:List V} {ds:List D} (h:Is K H Z v d) (r:IsL K H Z vs ds):IsL K H Z (v::vs) (d::ds)
end
def Kp (Z:Addr→Prop) (H:Hp) (Z':Addr→Prop) (H':Hp):Prop:=∀ a o,H a=some o→¬ Z a→H' a=some o∧¬ Z' a
theorem Kp.refl {Z:Addr→Prop} {H:Hp}:Kp Z H Z H:=fun _ _ h z=>⟨h,z⟩
theorem Kp.trans {Z Z1 Z2:Addr→Prop} {H H1 H2:Hp} (a:Kp Z H Z1 H1) (b:Kp Z1 H1 Z2 H2):Kp Z H Z2 H2:=fun c o h z=>b c o (a c o h z).1 (a c o h z).2
theorem Kp.same {Z:Addr→Prop} {H H':Hp} (s:Same H H'):Kp Z H Z H':=fun _ _ h z=>⟨s _ _ h,z⟩
theorem Kp.less {Z Z':Addr→Prop} {H:Hp} (h:∀ a,Z' a→Z a):Kp Z H Z' H:=fun a _ e z=>⟨e,fun q=>z (h a q)⟩
theorem Rd.kp {Z Z':Addr→Prop} {H H':Hp} {a:Addr} {u:HO} (k:Kp Z H Z' H') (hz:¬ Z a) (h:Rd H a u):Rd H' a u∧¬ Z' a:=by
  rcases h with h | ⟨o,h⟩
  · exact ⟨.inl (k _ _ h hz).1,(k _ _ h hz).2⟩
  · exact ⟨.inr ⟨o,(k _ _ h hz).1⟩,(k _ _ h hz).2⟩
mutual
theorem Is.kp {Z Z':Addr→Prop} {H H':Hp} (k:Kp Z H Z' H'):∀ {v:V} {d:D},Is K H Z v d→Is K H' Z' v d
  | _,_,.non=>.non
  | _,_,.bl b=>.bl b
  | _,_,.int b=>.int b
  | _,_,.str b=>.str b
  | _,_,.ty b=>.ty b
  | _,_,.lst hz h hl r=>.lst (Rd.kp k hz h).2 (Rd.kp k hz h).1 hl (IsL.kp k r)
  | _,_,.tup hz h hl r=>.tup (k _ _ h hz).2 (k _ _ h hz).1 hl (IsL.kp k r)
  | _,_,.ins hz h=>.ins (k _ _ h hz).2 (k _ _ h hz).1
  | _,_,.dct hz h hl=>.dct (Rd.kp k hz h).2 (Rd.kp k hz h).1 hl
  | _,_,.scr hz h hl=>.scr (Rd.kp k hz h).2 (Rd.kp k hz h).1 hl
  | _,_,.scrK h hl=>.scrK h hl
theorem IsL.kp {Z Z':Addr→Prop} {H H':Hp} (k:Kp Z H Z' H'):∀ {v:List V} {d:List D},IsL K H Z v d→IsL K H' Z' v d
  | _,_,.nil=>.nil
  | _,_,.cons h r=>.cons (Is.kp k h) (IsL.kp k r)
end
theorem Is.same {Z:Addr→Prop} {H H':Hp} {v:V} {d:D} (h:Is K H Z v d) (s:Same H H'):Is K H' Z v d:=h.kp (Kp.same s)
theorem IsL.same {Z:Addr→Prop} {H H':Hp} {v:List V} {d:List D} (h:IsL K H Z v d) (s:Same H H'):IsL K H' Z v d:=h.kp (Kp.same s)
theorem Is.all {Z:Addr→Prop} {H:Hp} {v:V} {d:D} (h:Is K H Z v d):Is K H No v d:=h.kp (Kp.less fun _ z=>z.elim)
theorem IsL.all {Z:Addr→Prop} {H:Hp} {v:List V} {d:List D} (h:IsL K H Z v d):IsL K H No v d:=h.kp (Kp.less fun _ z=>z.elim)
def D.scal:D→Bool
  | .lst _=>false
  | .tup _=>false
  | .ins _=>false
  | .scr _=>false
  | .dct _=>false
  | _=>true
theorem Is.scal {Z Z':Addr→Prop} {H H':Hp} {v:V} {d:D} (h:Is K H Z v d) (e:d.scal=true):Is K H' Z' v d:=by
  cases h with
  | non=>exact .non
  | bl b=>exact .bl b
  | int b=>exact .int b
  | str b=>exact .str b
  | ty b=>exact .ty b
  | lst _ _ _ _=>cases e
  | tup _ _ _ _=>cases e
  | ins _ _=>cases e
  | dct _ _ _=>cases e
  | scr _ _ _=>cases e
  | scrK _ _=>cases e
section
variable {H:Hp} {Z:Addr→Prop}
theorem IsL.paired:∀ {vs:List V} {ds:List D},IsL K H Z vs ds→Paired (Is K H Z) vs ds
  | _,_,.nil=>.nil
  | _,_,.cons h r=>.cons h (IsL.paired r)
theorem IsL.of:∀ {vs:List V} {ds:List D},Paired (Is K H Z) vs ds→IsL K H Z vs ds
  | _,_,.nil=>.nil
  | _,_,.cons h r=>.cons h (IsL.of r)
theorem IsL.length {vs:List V} {ds:List D} (h:IsL K H Z vs ds):vs.length=ds.length:=Paired.length h.paired
theorem IsL.get:∀ {vs:List V} {ds:List D} {i:Nat} {d:D},IsL K H Z vs ds→ds[i]?=some d→∃ v,vs[i]?=some v∧Is K H Z v d
  | _,_,0,_,.cons h _,e=>by cases e; exact ⟨_,rfl,h⟩
  | _,_,i+1,_,.cons _ r,e=>by
    obtain ⟨v,e1,h1⟩:=IsL.get (i:=i) r (by simpa using e)
    exact ⟨v,by simpa using e1,h1⟩
theorem IsL.getv {vs:List V} {ds:List D} {i:Nat} {v:V} (h:IsL K H Z vs ds) (e:vs[i]?=some v):∃ d,ds[i]?=some d∧Is K H Z v d:=by
  have hi:=(List.getElem?_eq_some_iff.mp e).1
  have hl:=h.length
  obtain ⟨v',e1,h1⟩:=h.get (i:=i) (d:=ds[i]'(by omega)) (List.getElem?_eq_getElem _)
  rw [e] at e1
  cases e1
  exact ⟨_,List.getElem?_eq_getElem (by omega),h1⟩
theorem IsL.append {vs us:List V} {ds es:List D} (a:IsL K H Z vs ds) (b:IsL K H Z us es):IsL K H Z (vs++us) (ds++es):=.of (Paired.append a.paired b.paired)
theorem IsL.set {v:V} {d:D} (q:Is K H Z v d):∀ {vs:List V} {ds:List D} (n:Nat),IsL K H Z vs ds→IsL K H Z (vs.set n v) (ds.set n d)
  | _,_,_,.nil=>.nil
  | _,_,0,.cons _ r=>.cons q r
  | _,_,n+1,.cons h r=>.cons h (IsL.set q n r)
theorem IsL.one {v:V} {d:D} (q:Is K H Z v d):IsL K H Z [v] [d]:=.cons q .nil
theorem IsL.ints:∀ {vs:List V} {ns:List Int},IsL K H Z vs (ns.map D.int)→vs=ns.map V.int
  | _,[],.nil=>rfl
  | _,n::ns,.cons (.int _) r=>by rw [IsL.ints (ns:=ns) r]; rfl
theorem IsL.ofInts:∀ (ns:List Int),IsL K H Z (ns.map V.int) (ns.map D.int)
  | []=>.nil
  | n::ns=>.cons (.int n) (IsL.ofInts ns)
end
inductive Sl where
  | un | pu (d:D) | bo (d:D) | ol (ds:List D) | om (rows:List (List D)) | od (kvs:List (Int×Int))
  | pm (a:Addr) (ps:List Addr) (rows:List (List D)) | pd (a:Addr) (kvs:List (Int×Int))
abbrev Rho:=List Sl
abbrev Own:=Nat→List Addr
def tot (Z:Addr→Prop) (os:Own):Addr→Prop:=fun a=>Z a∨∃ i,a∈os i
def SlOk (K:PySem.W.Frag) (B H:Hp) (T:Addr→Prop) (o:List Addr):Sl→Option V→Prop
  | .un,_=>o=[]
  | .pu d,v=>o=[]∧∃ u,v=some u∧Is K H T u d
  | .bo d,v=>o=[]∧∃ u,v=some u∧Is K B No u d
  | .ol ds,v=>∃ a vs,o=[a]∧v=some (.ref a)∧H a=some (.lst vs)∧vs.length≤sizeLine∧IsL K H T vs ds
  | .om rows,v=>∃ a ps,o=a::ps∧v=some (.ref a)∧H a=some (.lst (ps.map V.ref))∧ps.length≤sizeLine∧Paired (fun p ds=>∃ vs,H p=some (.lst vs)∧vs.length≤sizeLine∧IsL K H T vs ds) ps rows
  | .od kvs,v=>∃ a,o=[a]∧v=some (.ref a)∧H a=some (.dK (kvs.map dkv))∧kvs.length≤sizeLine
  | .pm a ps rows,v=>o=a::ps∧v=some (.ref a)∧H a=some (.lst (ps.map V.ref))∧ps.length≤sizeLine∧Paired (fun p ds=>∃ vs,H p=some (.lst vs)∧vs.length≤sizeLine∧IsL K H T vs ds) ps rows
  | .pd a kvs,v=>o=[a]∧v=some (.ref a)∧H a=some (.dK (kvs.map dkv))∧kvs.length≤sizeLine
class Tabs where
  ts:List (Addr×Str)
def TabIn [Tabs] (H:Hp):Prop:=∀ p∈Tabs.ts,∃ t,H p.1=some (.tbl #[.str p.2 t])
theorem TabIn.same [Tabs] {H H':Hp} (h:TabIn H) (s:Same H H'):TabIn H':=fun p hp=>let ⟨t,e⟩:=h p hp; ⟨t,s _ _ e⟩
def ZT [Tabs] (Z:Addr→Prop) (H:Hp):Prop:=(∀ a,Z a→∃ o,H a=some o)∧TabIn H
structure Fr [Tabs] (K:PySem.W.Frag) (B:Hp) (Z:Addr→Prop) (os:Own) (ρ:Rho) (σ:St) (H:Hp):Prop where
  keep:Same B H
  zin:∀ a,Z a→∃ o,H a=some o
  len:σ.length=ρ.length
  nd:∀ i,(os i).Nodup
  dj:∀ i j a,a∈os i→a∈os j→i=j
  new:∀ i a,a∈os i→B a=none∧¬ Z a
  sl:∀ i,SlOk K B H (tot Z os) (os i) (ρ.getD i .un) ((σ[i]?).join)
  tab:TabIn B
variable [Tabs]
theorem Fr.tabH {B H:Hp} {Z:Addr→Prop} {os:Own} {ρ:Rho} {σ:St} (f:Fr K B Z os ρ σ H):TabIn H:=f.tab.same f.keep
theorem Paired.any {α β:Type} {F:α→β→Prop}:∀ {as:List α} {bs:List β} {a:α},Paired F as bs→a∈as→∃ b,F a b
  | _,_,_,.cons r t,h=>by
    rcases List.mem_cons.mp h with rfl | h
    · exact ⟨_,r⟩
    · exact Paired.any t h
theorem SlOk.dom {B H:Hp} {T:Addr→Prop} {o:List Addr} {s:Sl} {v:Option V} (h:SlOk K B H T o s v) {a:Addr} (ha:a∈o):∃ u,H a=some u:=by
  cases s with
  | un=>cases h; cases ha
  | pu d=>obtain ⟨rfl,_⟩:=h; cases ha
  | bo d=>obtain ⟨rfl,_⟩:=h; cases ha
  | ol ds =>
    obtain ⟨b,vs,rfl,_,e,_⟩:=h
    cases List.mem_singleton.mp ha
    exact ⟨_,e⟩
  | om rows =>
    obtain ⟨b,ps,rfl,_,e,_,r⟩:=h
    rcases List.mem_cons.mp ha with rfl | ha
    · exact ⟨_,e⟩
    · obtain ⟨_,vs,q,_⟩:=Paired.any r ha
      exact ⟨_,q⟩
  | od kvs =>
    obtain ⟨b,rfl,_,e,_⟩:=h
    cases List.mem_singleton.mp ha
    exact ⟨_,e⟩
  | pm b ps rows =>
    obtain ⟨rfl,_,e,_,r⟩:=h
    rcases List.mem_cons.mp ha with rfl | ha
    · exact ⟨_,e⟩
    · obtain ⟨_,vs,q,_⟩:=Paired.any r ha
      exact ⟨_,q⟩
  | pd b kvs =>
    obtain ⟨rfl,_,e,_⟩:=h
    cases List.mem_singleton.mp ha
    exact ⟨_,e⟩
theorem SlOk.kp {B B' H H':Hp} {T T':Addr→Prop} {o:List Addr} {s:Sl} {v:Option V} (h:SlOk K B H T o s v) (k:Kp T H T' H') (hb:Same B B') (ho:∀ a∈o,∀ u,H a=some u→H' a=some u):SlOk K B' H' T' o s v:=by
  cases s with
  | un=>exact h
  | pu d=>obtain ⟨e,u,e2,i⟩:=h; exact ⟨e,u,e2,i.kp k⟩
  | bo d=>obtain ⟨e,u,e2,i⟩:=h; exact ⟨e,u,e2,i.same hb⟩
  | ol ds=>obtain ⟨a,vs,rfl,e2,e3,hl,i⟩:=h; exact ⟨a,vs,rfl,e2,ho _ (List.mem_singleton.mpr rfl) _ e3,hl,i.kp k⟩
  | om rows =>
    obtain ⟨a,ps,rfl,e2,e3,hl,i⟩:=h
    exact ⟨a,ps,rfl,e2,ho _ List.mem_cons_self _ e3,hl,Paired.mono i fun p ds hp ⟨vs,q,hv,j⟩=>⟨vs,ho _ (List.mem_cons_of_mem _ hp) _ q,hv,j.kp k⟩⟩
  | od kvs=>obtain ⟨a,rfl,e2,e3,hl⟩:=h; exact ⟨a,rfl,e2,ho _ (List.mem_singleton.mpr rfl) _ e3,hl⟩
  | pm a ps rows =>
    obtain ⟨rfl,e2,e3,hl,i⟩:=h
    exact ⟨rfl,e2,ho _ List.mem_cons_self _ e3,hl,Paired.mono i fun p ds hp ⟨vs,q,hv,j⟩=>⟨vs,ho _ (List.mem_cons_of_mem _ hp) _ q,hv,j.kp k⟩⟩
  | pd a kvs=>obtain ⟨rfl,e2,e3,hl⟩:=h; exact ⟨rfl,e2,ho _ (List.mem_singleton.mpr rfl) _ e3,hl⟩
section
variable {B H H':Hp} {Z:Addr→Prop} {os:Own} {ρ:Rho} {σ:St}
theorem Fr.grow (f:Fr K B Z os ρ σ H) (s:Same H H'):Fr K B Z os ρ σ H' where
  keep:=f.keep.trans s
  zin:=fun a z=>let ⟨o,e⟩:=f.zin a z; ⟨o,s _ _ e⟩
  len:=f.len
  nd:=f.nd
  dj:=f.dj
  new:=f.new
  sl:=fun i=>(f.sl i).kp (Kp.same s) (Same.refl _) fun a _ u e=>s _ _ e
  tab:=f.tab
theorem Fr.out (f:Fr K B Z os ρ σ H) {p:Addr} (hp:H p=none):¬ tot Z os p:=by
  rintro (z | ⟨i,z⟩)
  · obtain ⟨o,e⟩:=f.zin p z
    rw [hp] at e; cases e
  · obtain ⟨xs,e⟩:=(f.sl i).dom z
    rw [hp] at e; cases e
def putO (os:Own) (i:Nat) (o:List Addr):Own:=fun j=>if j=i then o else os j
theorem putO_same {os:Own} {i:Nat} {o:List Addr}:putO os i o i=o:=if_pos rfl
theorem putO_ne {os:Own} {i j:Nat} {o:List Addr} (h:j≠i):putO os i o j=os j:=if_neg h
theorem getD_set_same {α:Type} {l:List α} {i:Nat} {x d:α} (h:i<l.length):(l.set i x).getD i d=x:=by
  rw [List.getD_eq_getElem?_getD,List.getElem?_set_self h]; rfl
theorem getD_set_ne {α:Type} {l:List α} {i j:Nat} {x d:α} (h:j≠i):(l.set i x).getD j d=l.getD j d:=by
  rw [List.getD_eq_getElem?_getD,List.getElem?_set_ne (Ne.symm h),← List.getD_eq_getElem?_getD]
theorem Fr.step (f:Fr K B Z os ρ σ H) {i:Nat} (hi:i < ρ.length) {o:List Addr} {s:Sl} {v:Option V}
    (hk:∀ a u,H a=some u→a∉os i→H' a=some u) (hs:∀ a,a∈os i→∃ u,H' a=some u) (hn:o.Nodup) (ho:∀ a∈o,a∈os i∨H a=none) (ok:SlOk K B H' (tot Z (putO os i o)) o s v) :
    Fr K B Z (putO os i o) (ρ.set i s) (σ.set i v) H'∧Kp (tot Z os) H (tot Z (putO os i o)) H':=by
  have no:∀ a u,H a=some u→a∉os i→a∉o:=fun a u e n q=>by
    rcases ho a q with z | z
    · exact n z
    · rw [z] at e; cases e
  have kp:Kp (tot Z os) H (tot Z (putO os i o)) H':=fun a u e t=>by
    have ni:a∉os i:=fun q=>t (.inr ⟨i,q⟩)
    refine ⟨hk a u e ni,?_⟩
    rintro (z | ⟨j,z⟩)
    · exact t (.inl z)
    · by_cases hj:j=i
      · subst hj; rw [putO_same] at z; exact no a u e ni z
      · rw [putO_ne hj] at z; exact t (.inr ⟨j,z⟩)
  refine ⟨⟨fun a u e=>hk a u (f.keep a u e) fun q=>?_,fun a z=>?_,?_,fun j=>?_,fun j k a h1 h2=>?_,fun j a h=>?_,fun j=>?_,f.tab⟩,kp⟩
  · have:=(f.new i a q).1; rw [e] at this; cases this
  · obtain ⟨u,e⟩:=f.zin a z
    exact ⟨u,hk a u e fun q=>(f.new i a q).2 z⟩
  · rw [List.length_set,List.length_set]; exact f.len
  · by_cases hj:j=i
    · subst hj; rw [putO_same]; exact hn
    · rw [putO_ne hj]; exact f.nd j
  · have dom:∀ k,a∈os k→∃ u,H a=some u:=fun k z=>let ⟨xs,e⟩:=(f.sl k).dom z; ⟨_,e⟩
    by_cases hj:j=i
    · by_cases hk':k=i
      · rw [hj,hk']
      · subst hj
        rw [putO_same] at h1; rw [putO_ne hk'] at h2
        rcases ho a h1 with z | z
        · exact f.dj _ _ a z h2
        · obtain ⟨u,e⟩:=dom k h2; rw [z] at e; cases e
    · by_cases hk':k=i
      · subst hk'
        rw [putO_ne hj] at h1; rw [putO_same] at h2
        rcases ho a h2 with z | z
        · exact f.dj _ _ a h1 z
        · obtain ⟨u,e⟩:=dom j h1; rw [z] at e; cases e
      · rw [putO_ne hj] at h1; rw [putO_ne hk'] at h2
        exact f.dj _ _ a h1 h2
  · by_cases hj:j=i
    · subst hj
      rw [putO_same] at h
      rcases ho a h with z | z
      · exact f.new _ a z
      · exact ⟨Same.free f.keep z,fun q=>f.out z (.inl q)⟩
    · rw [putO_ne hj] at h; exact f.new j a h
  · by_cases hj:j=i
    · subst hj
      have hσ:j < σ.length:=by rw [f.len]; exact hi
      rw [putO_same,getD_set_same hi,List.getElem?_set_self hσ]
      exact ok
    · rw [putO_ne hj,getD_set_ne hj,List.getElem?_set_ne (Ne.symm hj)]
      exact (f.sl j).kp kp (Same.refl _) fun a ha u e=>hk a u e fun q=>hj (f.dj _ _ a ha q)
theorem Fr.put (f:Fr K B Z os ρ σ H) {i:Nat} (hi:i < ρ.length) {v:V} {d:D} (h:Is K H (tot Z os) v d) :
    Fr K B Z (putO os i []) (ρ.set i (.pu d)) (σ.set i (some v)) H∧Kp (tot Z os) H (tot Z (putO os i [])) H:=by
  refine f.step hi (fun a u e _=>e) (fun a ha=>let ⟨xs,e⟩:=(f.sl i).dom ha; ⟨_,e⟩) List.nodup_nil (fun a h=>by cases h) ⟨rfl,v,rfl,h.kp (Kp.less ?_)⟩
  rintro a (z | ⟨j,z⟩)
  · exact .inl z
  · by_cases hj:j=i
    · subst hj; rw [putO_same] at z; cases z
    · rw [putO_ne hj] at z; exact .inr ⟨j,z⟩
end
end VL
namespace VL
open PySem L2
open Classical
noncomputable section
abbrev DE:=Rho→Option D
section
variable [Tabs] {K:PySem.W.Frag}
def SemB (K:PySem.W.Frag) (t:TE) (e:DE):Prop:=∀ {B:Hp} {Z:Addr→Prop} {os:Own} {ρ:Rho} {σ:L2.St} {H:Hp} {Q:VK} {d:D},Fr K B Z os ρ σ H→e ρ=some d→(∀ v H',Same H H'→Is K H' No v d→Q v H')→t σ H Q
def SemI (K:PySem.W.Frag) (t:TE) (e:DE):Prop:=∀ {B:Hp} {Z:Addr→Prop} {os:Own} {ρ:Rho} {σ:L2.St} {H:Hp} {Q:VK} {d:D},Fr K B Z os ρ σ H→e ρ=some d→(∀ v H',Same H H'→Is K H' (tot Z os) v d→Q v H')→t σ H Q
def SemF (K:PySem.W.Frag) (t:TE) (e:Rho→Option (List D)):Prop:=∀ {B:Hp} {Z:Addr→Prop} {os:Own} {ρ:Rho} {σ:L2.St} {H:Hp} {Q:VK} {ds:List D},Fr K B Z os ρ σ H→e ρ=some ds →
  (∀ p vs H',Same H H'→H p=none→H' p=some (.lst vs)→vs.length≤sizeLine→IsL K H' (fun a=>a=p∨tot Z os a) vs ds→Q (.ref p) H')→t σ H Q
def SemT (K:PySem.W.Frag) (t:TT) (e:Rho→Option Bool):Prop:=∀ {B:Hp} {Z:Addr→Prop} {os:Own} {ρ:Rho} {σ:L2.St} {H:Hp} {Q:Bool→Hp→Prop} {b:Bool},Fr K B Z os ρ σ H→e ρ=some b→(∀ H',Same H H'→Q b H')→t σ H Q
inductive Args (K:PySem.W.Frag) (H:Hp) (T:Addr→Prop):List Bool→List V→List D→Prop
  | nil:Args K H T [] [] []
  | own {ms:List Bool} {v:V} {d:D} {vs:List V} {ds:List D}:Is K H T v d→Args K H T ms vs ds→Args K H T (true::ms) (v::vs) (d::ds)
  | any {ms:List Bool} {v:V} {d:D} {vs:List V} {ds:List D}:Is K H No v d→Args K H T ms vs ds→Args K H T (false::ms) (v::vs) (d::ds)
def SemA (K:PySem.W.Frag) (ms:List Bool) (t:TA) (e:Rho→Option (List D)):Prop:=∀ {B:Hp} {Z:Addr→Prop} {os:Own} {ρ:Rho} {σ:L2.St} {H:Hp} {Q:List V→Hp→Prop} {ds:List D},Fr K B Z os ρ σ H→e ρ=some ds→(∀ vs H',Same H H'→Args K H' (tot Z os) ms vs ds→Q vs H')→t σ H Q
theorem Args.len {H:Hp} {T:Addr→Prop} {ms:List Bool} {vs:List V} {ds:List D} (a:Args K H T ms vs ds):vs.length=ms.length∧ds.length=ms.length:=by
  induction a with
  | nil=>exact ⟨rfl,rfl⟩
  | own h _ ih=>simp [ih.1,ih.2]
  | any h _ ih=>simp [ih.1,ih.2]
theorem Args.lown {H:Hp} {T:Addr→Prop}:∀ {n:Nat} {vs:List V} {ds:List D},Args K H T (List.replicate n true) vs ds→IsL K H T vs ds
  | 0,_,_,.nil=>.nil
  | _+1,_,_,.own h r=>.cons h r.lown
theorem SemI.b {t:TE} {e:DE} (h:SemI K t e):SemB K t e:=fun f q k=>h f q fun v H' s i=>k v H' s i.all
theorem SemF.i {t:TE} {e:Rho→Option (List D)} (h:SemF K t e):SemI K t (fun ρ=>(e ρ).map D.lst):=fun {B Z os ρ σ H Q d} f q k=>by
  dsimp only at q
  cases q1:e ρ with
  | none=>rw [q1] at q; cases q
  | some ds =>
    rw [q1] at q
    cases q
    refine h f q1 fun p vs H' s hp hp' hl i=>k _ _ s (.lst (f.out hp) (.inl hp') hl (i.kp (Kp.less fun a z=>.inr z)))
def lof:D→Option (List D)
  | .lst ds=>some ds
  | .scr ns=>some (ns.map D.int)
  | _=>none
theorem Is.seq {H:Hp} {Z:Addr→Prop} {v:V} {d:D} {ds:List D} (h:Is K H Z v d) (e:lof d=some ds):∃ p vs,v=.ref p∧vs.length≤sizeLine∧vs.length=ds.length∧∀ H' Z',Kp Z H Z' H'→SqL K H' p vs∧IsL K H' Z' vs ds:=by
  cases h with
  | lst hz h hl r=>cases e; exact ⟨_,_,rfl,hl,r.length,fun H' Z' k=>⟨.inl (Rd.kp k hz h).1,r.kp k⟩⟩
  | scr hz h hl=>cases e; exact ⟨_,_,rfl,by rw [List.length_map]; exact hl,by simp,fun H' Z' k=>⟨.inl (Rd.kp k hz h).1,.ofInts _⟩⟩
  | scrK h hl=>cases e; exact ⟨_,_,rfl,by rw [List.length_map]; exact hl,by simp,fun H' Z' k=>⟨.inr h,.ofInts _⟩⟩
  | _=>cases e
noncomputable def gScal (e:DE):DE:=fun ρ=>match e ρ with
  | some d=>if d.scal=true then some d else none
  | none=>none
theorem SemB.i {t:TE} {e:DE} (h:SemB K t e):SemI K t (gScal e):=fun {B Z os ρ σ H Q d} f q k=>by
  unfold gScal at q
  cases q1:e ρ with
  | none=>rw [q1] at q; cases q
  | some d' =>
    rw [q1] at q
    have q':(if d'.scal=true then some d' else none)=some d:=q
    by_cases c:d'.scal=true
    · rw [if_pos c] at q'
      cases q'
      exact h f q1 fun v H' s i=>k v H' s (i.scal c)
    · rw [if_neg c] at q'; cases q'
noncomputable def dVar (i:Nat):DE:=fun ρ=>match ρ.getD i .un with
  | .pu d=>some d
  | .bo d=>some d
  | .ol ds=>some (.lst ds)
  | .om rows=>some (.lst (rows.map D.lst))
  | .od kvs=>some (.dct kvs)
  | .pm _ _ rows=>some (.lst (rows.map D.lst))
  | .pd _ kvs=>some (.dct kvs)
  | .un=>none
noncomputable def dVarI (i:Nat):DE:=fun ρ=>match ρ.getD i .un with
  | .pu d=>some d
  | _=>none
omit [Tabs] in
theorem join_some {α:Type} {o:Option (Option α)} {u:α} (h:o.join=some u):o=some (some u):=by
  cases o with
  | none=>cases h
  | some x=>rw [show x=some u from h]
theorem rows_is {H:Hp} {T:Addr→Prop}:∀ {ps:List Addr} {rows:List (List D)},Paired (fun p ds=>∃ vs,H p=some (.lst vs)∧vs.length≤sizeLine∧IsL K H T vs ds) ps rows→IsL K H No (ps.map V.ref) (rows.map D.lst)
  | _,_,.nil=>.nil
  | _,_,.cons ⟨vs,e,hl,i⟩ r=>.cons (.lst (fun z=>z) (.inl e) hl i.all) (rows_is r)
theorem sb_var (i:Nat):SemB K (tVar i) (dVar i):=fun {B Z os ρ σ H Q d} f q k=>by
  have s:=f.sl i
  unfold dVar at q
  cases e:ρ.getD i .un with
  | un=>rw [e] at q; cases q
  | pu d' =>
    rw [e] at q s
    cases q
    obtain ⟨_,u,hu,i⟩:=s
    exact ⟨u,join_some hu,k u H (Same.refl _) i.all⟩
  | bo d' =>
    rw [e] at q s
    cases q
    obtain ⟨_,u,hu,i⟩:=s
    exact ⟨u,join_some hu,k u H (Same.refl _) (i.same f.keep)⟩
  | ol ds =>
    rw [e] at q s
    cases q
    obtain ⟨a,vs,_,hu,hH,hl,i⟩:=s
    exact ⟨_,join_some hu,k _ H (Same.refl _) (.lst (fun z=>z) (.inl hH) hl i.all)⟩
  | om rows =>
    rw [e] at q s
    cases q
    obtain ⟨a,ps,_,hu,hH,hl,i⟩:=s
    exact ⟨_,join_some hu,k _ H (Same.refl _) (.lst (fun z=>z) (.inl hH) (by rw [List.length_map]; exact hl) (rows_is i))⟩
  | od kvs =>
    rw [e] at q s
    cases q
    obtain ⟨a,_,hu,hH,hl⟩:=s
    exact ⟨_,join_some hu,k _ H (Same.refl _) (.dct (fun z=>z) (.inl hH) hl)⟩
  | pm a ps rows =>
    rw [e] at q s
    cases q
    obtain ⟨_,hu,hH,hl,i⟩:=s
    exact ⟨_,join_some hu,k _ H (Same.refl _) (.lst (fun z=>z) (.inl hH) (by rw [List.length_map]; exact hl) (rows_is i))⟩
  | pd a kvs =>
    rw [e] at q s
    cases q
    obtain ⟨_,hu,hH,hl⟩:=s
    exact ⟨_,join_some hu,k _ H (Same.refl _) (.dct (fun z=>z) (.inl hH) hl)⟩
theorem si_var (i:Nat):SemI K (tVar i) (dVarI i):=fun {B Z os ρ σ H Q d} f q k=>by
  have s:=f.sl i
  unfold dVarI at q
  cases e:ρ.getD i .un with
  | pu d' =>
    rw [e] at q s
    cases q
    obtain ⟨_,u,hu,i⟩:=s
    exact ⟨u,join_some hu,k u H (Same.refl _) i⟩
  | _=>rw [e] at q; cases q
noncomputable def dC (d:D):DE:=fun _=>some d
theorem si_int {i:Int}:SemI K (tC (.int i)) (dC (.int i)):=fun f q k=>by cases q; exact k _ _ (Same.refl _) (.int i)
theorem si_bl {i:Bool}:SemI K (tC (.bl i)) (dC (.bl i)):=fun f q k=>by cases q; exact k _ _ (Same.refl _) (.bl i)
noncomputable def dII (f:Int→Int→Option D) (a b:DE):DE:=fun ρ=>match a ρ with
  | some (.int i)=>(match b ρ with
    | some (.int j)=>f i j
    | _=>none)
  | _=>none
theorem dII_some {f:Int→Int→Option D} {a b:DE} {ρ:Rho} {d:D} (h:dII f a b ρ=some d):∃ i j,a ρ=some (.int i)∧b ρ=some (.int j)∧f i j=some d:=by
  unfold dII at h
  split at h
  · rename_i i e1
    split at h
    · rename_i j e2
      exact ⟨i,j,e1,e2,h⟩
    · cases h
  · cases h
theorem Is.isInt {H:Hp} {Z:Addr→Prop} {v:V} {i:Int} (h:Is K H Z v (.int i)):v=.int i:=by cases h; rfl
theorem Is.isBl {H:Hp} {Z:Addr→Prop} {v:V} {i:Bool} (h:Is K H Z v (.bl i)):v=.bl i:=by cases h; rfl
variable {ta tb tc:TE} {a b c:DE}
theorem si_op0 {g:Int→Int→V} (gd:Int→Int→D) (hg:∀ i j H Z,Is K H Z (g i j) (gd i j)) (ha:SemB K ta a) (hb:SemB K tb b):SemI K (tOp (rI0 g) ta tb) (dII (fun i j=>some (gd i j)) a b):=fun {B Z os ρ σ H Q d} f q k=>by
  obtain ⟨i,j,e1,e2,e3⟩:=dII_some q
  cases e3
  refine ha f e1 fun v H1 s1 i1=>hb (f.grow s1) e2 fun u H2 s2 i2=>?_
  exact ⟨i,j,i1.isInt,i2.isInt,k _ _ (s1.trans s2) (hg i j _ _)⟩
noncomputable def gC (C:Int→Int→Prop) (g:Int→Int→D):Int→Int→Option D:=fun i j=>if C i j then some (g i j) else none
theorem gC_pos {C:Int→Int→Prop} {g:Int→Int→D} {i j:Int} (h:C i j):gC C g i j=some (g i j):=if_pos h
theorem si_opC {C:Int→Int→Prop} {g:Int→Int→V} (gd:Int→Int→D) (hg:∀ i j H Z,Is K H Z (g i j) (gd i j)) (ha:SemB K ta a) (hb:SemB K tb b):SemI K (tOp (rI C g) ta tb) (dII (gC C gd) a b):=fun {B Z os ρ σ H Q d} f q k=>by
  obtain ⟨i,j,e1,e2,e3⟩:=dII_some q
  unfold gC at e3
  by_cases c:C i j
  · rw [if_pos c] at e3
    cases e3
    refine ha f e1 fun v H1 s1 i1=>hb (f.grow s1) e2 fun u H2 s2 i2=>?_
    exact ⟨i,j,i1.isInt,i2.isInt,c,k _ _ (s1.trans s2) (hg i j _ _)⟩
  · rw [if_neg c] at e3; cases e3
noncomputable def dAdd:DE→DE→DE:=dII fun i j=>some (.int (i+j))
noncomputable def dSub:DE→DE→DE:=dII fun i j=>some (.int (i-j))
noncomputable def dMul:DE→DE→DE:=dII (gC IntMulOk fun i j=>.int (i*j))
noncomputable def dFdiv:DE→DE→DE:=dII (gC (fun _ j=>0<j∧j.natAbs.log2<9000) fun i j=>.int (i / j))
noncomputable def dMod:DE→DE→DE:=dII (gC (fun _ j=>0<j) fun i j=>.int (i % j))
noncomputable def dPow:DE→DE→DE:=dII (gC CPow fun i j=>.int (i ^ j.toNat))
noncomputable def dLt:DE→DE→DE:=dII fun i j=>some (.bl (decide (i<j)))
noncomputable def dLe:DE→DE→DE:=dII fun i j=>some (.bl (decide (i≤j)))
noncomputable def dGt:DE→DE→DE:=dII fun i j=>some (.bl (decide (j<i)))
theorem si_add (ha:SemB K ta a) (hb:SemB K tb b):SemI K (tOp (rI0 fun i j=>.int (i+j)) ta tb) (dAdd a b):=si_op0 (fun i j=>.int (i+j)) (fun _ _ _ _=>.int _) ha hb
theorem si_sub (ha:SemB K ta a) (hb:SemB K tb b):SemI K (tOp (rI0 fun i j=>.int (i-j)) ta tb) (dSub a b):=si_op0 (fun i j=>.int (i-j)) (fun _ _ _ _=>.int _) ha hb
theorem si_mul (ha:SemB K ta a) (hb:SemB K tb b):SemI K (tOp (rI IntMulOk fun i j=>.int (i*j)) ta tb) (dMul a b):=si_opC (fun i j=>.int (i*j)) (fun _ _ _ _=>.int _) ha hb
theorem si_fdiv (ha:SemB K ta a) (hb:SemB K tb b):SemI K (tOp (rI (fun _ j=>0<j∧j.natAbs.log2<9000) fun i j=>.int (i / j)) ta tb) (dFdiv a b):=si_opC (fun i j=>.int (i / j)) (fun _ _ _ _=>.int _) ha hb
theorem si_mod (ha:SemB K ta a) (hb:SemB K tb b):SemI K (tOp (rI (fun _ j=>0<j) fun i j=>.int (i % j)) ta tb) (dMod a b):=si_opC (fun i j=>.int (i % j)) (fun _ _ _ _=>.int _) ha hb
theorem si_pow (ha:SemB K ta a) (hb:SemB K tb b):SemI K (tOp (rI CPow fun i j=>.int (i ^ j.toNat)) ta tb) (dPow a b):=si_opC (fun i j=>.int (i ^ j.toNat)) (fun _ _ _ _=>.int _) ha hb
theorem si_lt (ha:SemB K ta a) (hb:SemB K tb b):SemI K (tOp (rI0 fun i j=>.bl (decide (i<j))) ta tb) (dLt a b):=si_op0 (fun i j=>.bl (decide (i<j))) (fun _ _ _ _=>.bl _) ha hb
theorem si_le (ha:SemB K ta a) (hb:SemB K tb b):SemI K (tOp (rI0 fun i j=>.bl (decide (i≤j))) ta tb) (dLe a b):=si_op0 (fun i j=>.bl (decide (i≤j))) (fun _ _ _ _=>.bl _) ha hb
theorem si_gt (ha:SemB K ta a) (hb:SemB K tb b):SemI K (tOp (rI0 fun i j=>.bl (decide (j<i))) ta tb) (dGt a b):=si_op0 (fun i j=>.bl (decide (j<i))) (fun _ _ _ _=>.bl _) ha hb
noncomputable def dT (a:DE):Rho→Option Bool:=fun ρ=>match a ρ with
  | some (.bl b)=>some b
  | _=>none
theorem st_test (ha:SemB K ta a):SemT K (tTest ta) (dT a):=fun {B Z os ρ σ H Q d} f q k=>by
  unfold dT at q
  split at q
  · rename_i b e
    cases q
    exact ha f e fun v H1 s1 i1=>⟨_,i1.isBl,k _ s1⟩
  · cases q
def truD:D→Option Bool
  | .non=>some false
  | .bl b=>some b
  | .int i=>some (i != 0)
  | .str y=>if y.length≤sizeLine then some ((y.length:Int) != 0) else none
  | .lst ds=>some (!ds.isEmpty)
  | .tup ds=>some (!ds.isEmpty)
  | .scr ns=>some (!ns.isEmpty)
  | _=>none
theorem isEmpty_is {H:Hp} {Z:Addr→Prop} {vs:List V} {ds:List D} (h:IsL K H Z vs ds):vs.isEmpty=ds.isEmpty:=by cases h <;> rfl
theorem tru_is {H:Hp} {Z:Addr→Prop} {v:V} {d:D} {b:Bool} (h:Is K H Z v d) (e:truD d=some b):TruV K v H b:=by
  cases h with
  | non=>cases e; rfl
  | bl b=>cases e; rfl
  | int i=>cases e; rfl
  | str x =>
    have e:(if x.length≤sizeLine then some ((x.length:Int) != 0) else none)=some b:=e
    by_cases c:x.length≤sizeLine
    · rw [if_pos c] at e; cases e; exact ⟨c,rfl⟩
    · rw [if_neg c] at e; cases e
  | ty n=>cases e
  | lst hz h hl r=>cases e; exact .inl ⟨_,.inl h,by rw [isEmpty_is r]⟩
  | tup hz h hl r=>cases e; exact .inr (.inl ⟨_,.inl (.inl h),by rw [isEmpty_is r]⟩)
  | ins _ _=>cases e
  | dct _ _ _=>cases e
  | scr hz h hl=>cases e; exact .inl ⟨_,.inl h,by cases ‹List Int› <;> rfl⟩
  | scrK h hl=>cases e; exact .inl ⟨_,.inr h,by cases ‹List Int› <;> rfl⟩
noncomputable def dTru (a:DE):Rho→Option Bool:=fun ρ=>match a ρ with
  | some d=>truD d
  | none=>none
theorem st_tru (ha:SemB K ta a):SemT K (fun σ H Q=>ta σ H fun x H'=>∃ k,TruV K x H' k∧Q k H') (dTru a):=fun {B Z os ρ σ H Q b} f q k=>by
  unfold dTru at q
  split at q
  · rename_i d e
    exact ha f e fun v H1 s1 i1=>⟨b,tru_is i1 q,k _ s1⟩
  · cases q
variable {tA tB':TT} {x y:Rho→Option Bool}
noncomputable def dOr (x y:Rho→Option Bool):Rho→Option Bool:=fun ρ=>match x ρ with
  | some true=>some true
  | some false=>y ρ
  | none=>none
noncomputable def dNot (x:Rho→Option Bool):Rho→Option Bool:=fun ρ=>match x ρ with
  | some b=>some (!b)
  | none=>none
theorem st_or (ha:SemT K tA x) (hb:SemT K tB' y):SemT K (tOr tA tB') (dOr x y):=fun {B Z os ρ σ H Q b} f q k=>by
  unfold dOr at q
  split at q
  · rename_i e
    cases q
    exact ha f e fun H1 s1=>iteT (k _ s1)
  · rename_i e
    exact ha f e fun H1 s1=>iteF (hb (f.grow s1) q fun H2 s2=>k _ (s1.trans s2))
  · cases q
theorem st_not (ha:SemT K tA x):SemT K (tNot tA) (dNot x):=fun {B Z os ρ σ H Q b} f q k=>by
  unfold dNot at q
  split at q
  · rename_i c e
    cases q
    exact ha f e fun H1 s1=>k _ s1
  · cases q
noncomputable def dTrue:Rho→Option Bool:=fun _=>some true
theorem st_true:SemT K tTrue dTrue:=fun f q k=>by cases q; exact k _ (Same.refl _)
noncomputable def dAndV (a b:DE):DE:=fun ρ=>match a ρ with
  | some (.bl true)=>b ρ
  | some (.bl false)=>some (.bl false)
  | _=>none
noncomputable def dOrV (a b:DE):DE:=fun ρ=>match a ρ with
  | some (.bl true)=>some (.bl true)
  | some (.bl false)=>b ρ
  | _=>none
noncomputable def dNotV (a:DE):DE:=fun ρ=>match a ρ with
  | some (.bl c)=>some (.bl (!c))
  | _=>none
theorem si_andV (ha:SemB K ta a) (hb:SemI K tb b):SemI K (tAndV ta tb) (dAndV a b):=fun {B Z os ρ σ H Q d} f q k=>by
  unfold dAndV at q
  split at q
  · rename_i e
    exact ha f e fun v H1 s1 i1=>⟨true,i1.isBl,iteT (hb (f.grow s1) q fun v H2 s2=>k _ _ (s1.trans s2))⟩
  · rename_i e
    cases q
    exact ha f e fun v H1 s1 i1=>⟨false,i1.isBl,iteF (k _ _ s1 (.bl _))⟩
  · cases q
theorem si_orV (ha:SemB K ta a) (hb:SemI K tb b):SemI K (tOrV ta tb) (dOrV a b):=fun {B Z os ρ σ H Q d} f q k=>by
  unfold dOrV at q
  split at q
  · rename_i e
    cases q
    exact ha f e fun v H1 s1 i1=>⟨true,i1.isBl,iteT (k _ _ s1 (.bl _))⟩
  · rename_i e
    exact ha f e fun v H1 s1 i1=>⟨false,i1.isBl,iteF (hb (f.grow s1) q fun v H2 s2=>k _ _ (s1.trans s2))⟩
  · cases q
theorem si_notV (ha:SemB K ta a):SemI K (tNotV ta) (dNotV a):=fun {B Z os ρ σ H Q d} f q k=>by
  unfold dNotV at q
  split at q
  · rename_i c e
    cases q
    exact ha f e fun v H1 s1 i1=>⟨c,i1.isBl,k _ _ s1 (.bl _)⟩
  · cases q
noncomputable def dIf (x:Rho→Option Bool) (a b:DE):DE:=fun ρ=>match x ρ with
  | some true=>a ρ
  | some false=>b ρ
  | none=>none
theorem si_if (h:SemT K tA x) (ha:SemI K ta a) (hb:SemI K tb b):SemI K (tIf tA ta tb) (dIf x a b):=fun {B Z os ρ σ H Q d} f q k=>by
  unfold dIf at q
  split at q
  · rename_i e
    exact h f e fun H1 s1=>iteT (ha (f.grow s1) q fun v H2 s2=>k _ _ (s1.trans s2))
  · rename_i e
    exact h f e fun H1 s1=>iteF (hb (f.grow s1) q fun v H2 s2=>k _ _ (s1.trans s2))
  · cases q
end
end
end VL
namespace L2
open PySem PySem.Spec PyProof.Rows
section
variable {X:Cx} {pins:List (Addr×Obj)} {σ:St} {H:Hp} {s:Shared} {l:Addr} {xs:List V}
theorem Inv.lstR (I:Inv X pins σ H s) (hH:Rd H l (.lst xs)):xs.length≤sizeLine∧∃ (its:List Value) (n:Nat),Vals xs its∧xs.length=its.length∧s.heap.get? l=some { cls:=.type "list", data:=.seq its.toArray n }:=by
  obtain ⟨z,its,n,r,e⟩:=hH.ok I.hok
  exact ⟨z,its,n,r,r.length,e⟩
def rCatR:R2:=fun x y H Q=>∃ l b xs zs,x=.ref l∧y=.ref b∧Rd H l (.lst xs)∧Rd H b (.lst zs)∧xs.length+zs.length≤sizeLine∧∀ p,H p=none→Q (.ref p) (upd H p (.lst (xs++zs)))
theorem op_catR:OpR X (binaryOp .Add) rCatR:=by
  intro pins s σ H x y v u Q I rx ry h
  obtain ⟨l,b,xs,zs,rfl,rfl,hH,hB,hz,q⟩:=h
  cases rx
  cases ry
  obtain ⟨z,its,n,r,hl,e⟩:=I.lstR hH
  obtain ⟨z2,its2,n2,r2,hl2,e2⟩:=I.lstR hB
  refine PySem.P.add_list e e2 ?_ (by rw [List.size_toArray,List.size_toArray]; omega)
  have ea:its.toArray++its2.toArray=(its++its2).toArray:=by simp
  rw [ea]
  exact ⟨.ref _,_,I.lnew (t':=s.toks) (r.append r2) (by rw [List.length_append]; omega),rfl,q _ I.fresh⟩
def rExtR:V→List V→Hp→VK→Prop:=fun x vs H Q=>∃ l b xs zs,x=.ref l∧vs=[.ref b]∧H l=some (.lst xs)∧Rd H b (.lst zs)∧xs.length+zs.length≤sizeLine∧Q .non (upd H l (.lst (xs++zs)))
theorem mt_extR:MtM X "list.extend" rExtR:=by
  intro pins s σ H x vs v us Q I rx rv h
  obtain ⟨l,b,xs,zs,rfl,rfl,hH,hB,hz,q⟩:=h
  cases rx
  obtain ⟨u,rfl,ru⟩:=rv.one
  cases ru
  obtain ⟨z,its,n,r,hl,e⟩:=I.lstM hH
  obtain ⟨z2,its2,n2,r2,hl2,e2⟩:=I.lstR hB
  have hsz:its.toArray.size+its2.toArray.size≤sizeLine:=by rw [List.size_toArray,List.size_toArray]; omega
  have hlong:¬ (!its.toArray.isEmpty&&Builtin.List.listTooLong (its.toArray.size+its2.toArray.size))=true:=by
    rw [notLongL hsz,Bool.and_false]
    exact Bool.false_ne_true
  refine call_meets F.slot_list_extend ⟨_,e,rfl⟩ F.entry_list_extend (F.args_list_extend_2 _ _)
    (AutoSeq1.list_extend_list_list_0 l its.toArray n b its2.toArray n2 hlong (by rw [List.size_toArray]; omega) (by omega)) ⟨e,e2,?_⟩
  refine ⟨.non,_,I.lset (its':=its++its2) hH e (by simp) (r.append r2) ?_,rfl,q⟩
  rw [List.length_append]
  omega
theorem ix_seqK {K:PySem.W.Frag} (h:X.K=K):IxR X (rIx K):=by subst h; exact ix_seq
theorem call_lenK {K:PySem.W.Frag} (h:X.K=K):CallR X (.builtin "len") (fun xs H Q=>∃ x n,xs=[x]∧LenV K x H n∧Q (.int n) H):=by subst h; exact call_len
theorem call_sumK {K:PySem.W.Frag} (hc:X.calm=true) (h:X.K=K):CallR X (.builtin "sum") (fun xs H Q=>∃ (p:Addr) (ns:List Int),xs=[.ref p]∧SqL K H p (ns.map V.int)∧Q (.int ns.sum) H):=by subst h; exact call_sum hc
theorem call_max1K {K:PySem.W.Frag} (hc:X.calm=true) (h:X.K=K):CallR X (.builtin "max") (fun xs H Q=>∃ (p:Addr) (ns:List Int),xs=[.ref p]∧SqL K H p (ns.map V.int)∧ns≠[]∧∀ M,M∈ns→(∀ a,a∈ns→a≤M)→Q (.int M) H):=by subst h; exact call_max1 hc
end
end L2
namespace VL
open PySem L2
open Classical
noncomputable section
section
variable [Tabs] {K:PySem.W.Frag} {ta tb tc:TE} {a b c:DE}
noncomputable def dCons (a:DE) (es:Rho→Option (List D)):Rho→Option (List D):=fun ρ=>match a ρ with
  | some d=>(match es ρ with
    | some ds=>some (d::ds)
    | none=>none)
  | none=>none
noncomputable def dNil:Rho→Option (List D):=fun _=>some []
theorem dCons_some {a:DE} {es:Rho→Option (List D)} {ρ:Rho} {ds:List D} (h:dCons a es ρ=some ds):∃ d r,a ρ=some d∧es ρ=some r∧ds=d::r:=by
  unfold dCons at h
  split at h
  · rename_i d e1
    split at h
    · rename_i r e2
      exact ⟨d,r,e1,e2,(Option.some.inj h).symm⟩
    · cases h
  · cases h
theorem sa_nil:SemA K [] tNil dNil:=fun f q k=>by cases q; exact k _ _ (Same.refl _) .nil
theorem sa_own {ms:List Bool} {tr:TA} {es:Rho→Option (List D)} (ha:SemI K ta a) (hr:SemA K ms tr es):SemA K (true::ms) (tCons ta tr) (dCons a es):=fun {B Z os ρ σ H Q ds} f q k=>by
  obtain ⟨d,r,e1,e2,rfl⟩:=dCons_some q
  exact ha f e1 fun v H1 s1 i1=>hr (f.grow s1) e2 fun vs H2 s2 i2=>k _ _ (s1.trans s2) (.own (i1.same s2) i2)
theorem sa_any {ms:List Bool} {tr:TA} {es:Rho→Option (List D)} (ha:SemB K ta a) (hr:SemA K ms tr es):SemA K (false::ms) (tCons ta tr) (dCons a es):=fun {B Z os ρ σ H Q ds} f q k=>by
  obtain ⟨d,r,e1,e2,rfl⟩:=dCons_some q
  exact ha f e1 fun v H1 s1 i1=>hr (f.grow s1) e2 fun vs H2 s2 i2=>k _ _ (s1.trans s2) (.any (i1.same s2) i2)
theorem kp_new {T:Addr→Prop} {H:Hp} {p:Addr} {o:HO} (hp:H p=none):Kp T H (fun a=>a=p∨T a) (upd H p o):=fun a u e z=>by
  have hne:a≠p:=ne_of_none e hp
  exact ⟨by rw [upd_ne hne]; exact e,fun q=>q.elim hne z⟩
theorem sf_lst {n:Nat} {t:TA} {es:Rho→Option (List D)} (h:SemA K (List.replicate n true) t es) (hn:n≤sizeLine):SemF K (tLst t) es:=fun {B Z os ρ σ H Q ds} f q k=>by
  refine h f q fun vs H1 s1 a=>?_
  have hl:vs.length≤sizeLine:=by have:=a.len.1; rw [List.length_replicate] at this; omega
  exact ⟨hl,fun p hp=>k p vs _ (s1.trans (same_new hp)) (Same.free s1 hp) upd_same hl (a.lown.kp (kp_new hp))⟩
noncomputable def dTup (es:Rho→Option (List D)):DE:=fun ρ=>(es ρ).map D.tup
theorem si_tup {n:Nat} {t:TA} {es:Rho→Option (List D)} (h:SemA K (List.replicate n true) t es) (hn:n≤sizeLine):SemI K (tTup t) (dTup es):=fun {B Z os ρ σ H Q d} f q k=>by
  unfold dTup at q
  cases q1:es ρ with
  | none=>rw [q1] at q; cases q
  | some ds =>
    rw [q1] at q
    cases q
    refine h f q1 fun vs H1 s1 a=>?_
    have hl:vs.length≤sizeLine:=by have:=a.len.1; rw [List.length_replicate] at this; omega
    exact ⟨hl,fun p hp=>k _ _ (s1.trans (same_new hp)) (.tup ((f.grow s1).out hp) upd_same hl ((a.lown.kp (kp_new hp)).kp (Kp.less fun a z=>.inr z)))⟩
noncomputable def dLst (es:Rho→Option (List D)):DE:=fun ρ=>(es ρ).map D.lst
theorem SemF.l {t:TE} {e:Rho→Option (List D)} (h:SemF K t e):SemI K t (dLst e):=h.i
def ixD:D→Int→Option D
  | .lst ds,i=>atI ds i
  | .tup ds,i=>atI ds i
  | .scr ns,i=>(atI ns i).map D.int
  | .str z,i=>if z.length≤sizeLine then (atI z.cps.toList i).map fun c=>.str ⟨#[c]⟩ else none
  | _,_=>none
theorem atI_is {H:Hp} {Z:Addr→Prop} {vs:List V} {ds:List D} {i:Int} {d:D} (r:IsL K H Z vs ds) (h:atI ds i=some d):∃ v,atI vs i=some v∧Is K H Z v d:=by
  unfold atI at h ⊢
  rw [r.length]
  cases e:ixN ds.length i with
  | none=>rw [e] at h; cases h
  | some j =>
    rw [e] at h
    obtain ⟨v,e1,i1⟩:=r.get (i:=j) (show ds[j]?=some d from h)
    exact ⟨v,e1,i1⟩
theorem atI_mapI {ns:List Int} {i:Int} {n:Int} (h:atI ns i=some n):atI (ns.map V.int) i=some (.int n):=by
  unfold atI at h ⊢
  rw [List.length_map]
  cases e:ixN ns.length i with
  | none=>rw [e] at h; cases h
  | some j =>
    rw [e] at h
    have h':ns[j]?=some n:=h
    show (ns.map V.int)[j]?=some (.int n)
    rw [List.getElem?_map,h']
    rfl
theorem ix_is {H:Hp} {Z:Addr→Prop} {v:V} {d e:D} {i:Int} {Q:VK} (h:Is K H Z v d) (q:ixD d i=some e) (k:∀ u,Is K H Z u e→Q u H):rIx K v (.int i) H Q:=by
  cases h with
  | lst hz h hl r =>
    obtain ⟨u,e1,i1⟩:=atI_is r (show atI _ i=some e from q)
    exact .inl ⟨_,_,i,u,rfl,rfl,.inl h,e1,k u i1⟩
  | tup hz h hl r =>
    obtain ⟨u,e1,i1⟩:=atI_is r (show atI _ i=some e from q)
    exact .inr (.inl ⟨_,_,i,u,rfl,rfl,.inl (.inl h),e1,k u i1⟩)
  | str z =>
    have q:(if z.length≤sizeLine then (atI z.cps.toList i).map fun c=>D.str ⟨#[c]⟩ else none)=some e:=q
    by_cases c:z.length≤sizeLine
    · rw [if_pos c] at q
      cases e2:atI z.cps.toList i with
      | none=>rw [e2] at q; cases q
      | some cp =>
        rw [e2] at q
        cases q
        exact .inr (.inr ⟨z,i,cp,rfl,rfl,c,e2,k _ (.str _)⟩)
    · rw [if_neg c] at q; cases q
  | @scr p ns hz h hl =>
    have q:(atI ns i).map D.int=some e:=q
    cases e2:atI ns i with
    | none=>rw [e2] at q; cases q
    | some n=>rw [e2] at q; cases q; exact .inl ⟨_,_,i,_,rfl,rfl,.inl h,atI_mapI e2,k _ (.int n)⟩
  | @scrK p ns h hl =>
    have q:(atI ns i).map D.int=some e:=q
    cases e2:atI ns i with
    | none=>rw [e2] at q; cases q
    | some n=>rw [e2] at q; cases q; exact .inl ⟨_,_,i,_,rfl,rfl,.inr h,atI_mapI e2,k _ (.int n)⟩
  | _=>cases q
noncomputable def dIx (a b:DE):DE:=fun ρ=>match a ρ with
  | some d=>(match b ρ with
    | some (.int i)=>ixD d i
    | _=>none)
  | none=>none
theorem dIx_some {ρ:Rho} {d:D} (h:dIx a b ρ=some d):∃ e i,a ρ=some e∧b ρ=some (.int i)∧ixD e i=some d:=by
  unfold dIx at h
  split at h
  · rename_i e e1
    split at h
    · rename_i i e2
      exact ⟨e,i,e1,e2,h⟩
    · cases h
  · cases h
theorem sb_ix (ha:SemB K ta a) (hb:SemB K tb b):SemB K (tOp (rIx K) ta tb) (dIx a b):=fun {B Z os ρ σ H Q d} f q k=>by
  obtain ⟨e,i,e1,e2,e3⟩:=dIx_some q
  refine ha f e1 fun v H1 s1 i1=>hb (f.grow s1) e2 fun u H2 s2 i2=>?_
  rw [i2.isInt]
  exact ix_is (i1.same s2) e3 fun w i3=>k _ _ (s1.trans s2) i3
theorem si_ix (ha:SemI K ta a) (hb:SemB K tb b):SemI K (tOp (rIx K) ta tb) (dIx a b):=fun {B Z os ρ σ H Q d} f q k=>by
  obtain ⟨e,i,e1,e2,e3⟩:=dIx_some q
  refine ha f e1 fun v H1 s1 i1=>hb (f.grow s1) e2 fun u H2 s2 i2=>?_
  rw [i2.isInt]
  exact ix_is (i1.same s2) e3 fun w i3=>k _ _ (s1.trans s2) i3
def D.v:D→V
  | .bl b=>.bl b
  | .int i=>.int i
  | .str x=>.str x
  | .ty n=>.ty n
  | _=>.non
theorem D.v_is {H:Hp} {Z:Addr→Prop} {d:D} (h:d.scal=true):Is K H Z d.v d:=by
  cases d with
  | non=>exact .non
  | bl b=>exact .bl b
  | int b=>exact .int b
  | str b=>exact .str b
  | ty b=>exact .ty b
  | _=>cases h
noncomputable def dF1 (g:D→Option D) (a:DE):DE:=fun ρ=>match a ρ with
  | some d=>g d
  | none=>none
theorem si_f1 {r:List V→Hp→VK→Prop} {g:D→Option D} (hg:∀ {H v d e} {Q:VK},Is K H No v d→g d=some e→e.scal=true∧(Q e.v H→r [v] H Q)) (ha:SemB K ta a):SemI K (tCB r (tCons ta tNil)) (dF1 g a):=fun {B Z os ρ σ H Q d} f q k=>by
  unfold dF1 at q
  split at q
  · rename_i e e1
    refine ha f e1 fun v H1 s1 i1=>?_
    obtain ⟨hs,hr⟩:=hg (Q:=Q) i1 q
    exact hr (k _ _ s1 (D.v_is hs))
  · cases q
def lenD:D→Option D
  | .lst ds=>some (.int ds.length)
  | .tup ds=>some (.int ds.length)
  | .scr ns=>some (.int ns.length)
  | .str y=>if y.length≤sizeLine then some (.int y.length) else none
  | _=>none
theorem len_is {H:Hp} {v:V} {d e:D} {Q:VK} (h:Is K H No v d) (q:lenD d=some e):e.scal=true∧(Q e.v H→∃ x n,[v]=[x]∧LenV K x H n∧Q (.int n) H):=by
  cases h with
  | lst hz h hl r=>cases q; exact ⟨rfl,fun k=>⟨_,_,rfl,.inl ⟨_,.inl h,rfl⟩,by rw [r.length]; exact k⟩⟩
  | tup hz h hl r=>cases q; exact ⟨rfl,fun k=>⟨_,_,rfl,.inr ⟨_,.inl (.inl h),rfl⟩,by rw [r.length]; exact k⟩⟩
  | str z =>
    have q:(if z.length≤sizeLine then some (D.int z.length) else none)=some e:=q
    by_cases c:z.length≤sizeLine
    · rw [if_pos c] at q; cases q; exact ⟨rfl,fun k=>⟨_,_,rfl,⟨c,rfl⟩,k⟩⟩
    · rw [if_neg c] at q; cases q
  | scr hz h hl=>cases q; exact ⟨rfl,fun k=>⟨_,_,rfl,.inl ⟨_,.inl h,rfl⟩,by rw [List.length_map]; exact k⟩⟩
  | scrK h hl=>cases q; exact ⟨rfl,fun k=>⟨_,_,rfl,.inl ⟨_,.inr h,rfl⟩,by rw [List.length_map]; exact k⟩⟩
  | _=>cases q
theorem si_len (ha:SemB K ta a):SemI K (tCB (fun xs H Q=>∃ x n,xs=[x]∧LenV K x H n∧Q (.int n) H) (tCons ta tNil)) (dF1 lenD a):=si_f1 (fun h q=>len_is h q) ha
def asInts:List D→Option (List Int)
  | []=>some []
  | .int i::r=>(asInts r).map (i::·)
  | _=>none
theorem asInts_map:∀ (ns:List Int),asInts (ns.map D.int)=some ns
  | []=>rfl
  | n::ns=>by show (asInts (ns.map D.int)).map (n::·)=_; rw [asInts_map ns]; rfl
theorem asInts_some:∀ {ds:List D} {ns:List Int},asInts ds=some ns→ds=ns.map D.int
  | [],ns,h=>by cases h; rfl
  | .int i::r,ns,h=>by
    have h:(asInts r).map (i::·)=some ns:=h
    cases e:asInts r with
    | none=>rw [e] at h; cases h
    | some ms=>rw [e] at h; cases h; rw [asInts_some e]; rfl
  | .non::_,_,h=>by cases h
  | .bl _::_,_,h=>by cases h
  | .str _::_,_,h=>by cases h
  | .ty _::_,_,h=>by cases h
  | .lst _::_,_,h=>by cases h
  | .tup _::_,_,h=>by cases h
  | .ins _::_,_,h=>by cases h
  | .dct _::_,_,h=>by cases h
  | .scr _::_,_,h=>by cases h
def ofInts (g:List Int→Option D):D→Option D
  | .lst ds=>(asInts ds).bind g
  | _=>none
theorem ofInts_lst (g:List Int→Option D) (ns:List Int):ofInts g (.lst (ns.map D.int))=g ns:=by
  show (asInts (ns.map D.int)).bind g=g ns
  rw [asInts_map]; rfl
theorem ofInts_some {g:List Int→Option D} {d e:D} (h:ofInts g d=some e):∃ ns,d=.lst (ns.map D.int)∧g ns=some e:=by
  cases d with
  | lst ds =>
    have h:(asInts ds).bind g=some e:=h
    cases q:asInts ds with
    | none=>rw [q] at h; cases h
    | some ns=>rw [q] at h; exact ⟨ns,by rw [asInts_some q],h⟩
  | _=>cases h
theorem Is.ints {H:Hp} {Z:Addr→Prop} {v:V} {ns:List Int} (h:Is K H Z v (.lst (ns.map D.int))):∃ p,v=.ref p∧Rd H p (.lst (ns.map V.int)):=by
  generalize e:D.lst (ns.map D.int)=d at h
  cases h with
  | lst hz h hl r=>cases e; rw [← r.ints]; exact ⟨_,rfl,h⟩
  | _=>cases e
def sumD:D→Option D:=ofInts fun ns=>some (.int ns.sum)
theorem si_sum (ha:SemB K ta a):SemI K (tCB (fun xs H Q=>∃ (p:Addr) (ns:List Int),xs=[.ref p]∧SqL K H p (ns.map V.int)∧Q (.int ns.sum) H) (tCons ta tNil)) (dF1 sumD a):=by
  refine si_f1 (fun h q=>?_) ha
  obtain ⟨ns,rfl,e⟩:=ofInts_some q
  cases e
  obtain ⟨p,rfl,r⟩:=h.ints
  exact ⟨rfl,fun k=>⟨p,ns,rfl,.inl r,k⟩⟩
def maxL (x:Int) (r:List Int):Int:=r.foldl max x
def minL (x:Int) (r:List Int):Int:=r.foldl min x
theorem maxL_spec:∀ (r:List Int) (x:Int),maxL x r∈x::r∧∀ a∈x::r,a≤maxL x r
  | [],x=>⟨List.mem_cons_self,fun a h=>by rw [List.mem_singleton.mp h]; exact Int.le_refl _⟩
  | y::r,x=>by
    obtain ⟨h1,h2⟩:=maxL_spec r (max x y)
    have e:maxL x (y::r)=maxL (max x y) r:=rfl
    rw [e]
    refine ⟨?_,fun a ha=>?_⟩
    · rcases List.mem_cons.mp h1 with q | q
      · rw [q]
        rcases Int.le_total x y with z | z
        · rw [Int.max_eq_right z]; simp
        · rw [Int.max_eq_left z]; simp
      · simp [q]
    · have hm:=h2 (max x y) List.mem_cons_self
      rcases List.mem_cons.mp ha with rfl | ha
      · omega
      · rcases List.mem_cons.mp ha with rfl | ha
        · omega
        · exact h2 a (List.mem_cons_of_mem _ ha)
theorem minL_spec:∀ (r:List Int) (x:Int),minL x r∈x::r∧∀ a∈x::r,minL x r≤a
  | [],x=>⟨List.mem_cons_self,fun a h=>by rw [List.mem_singleton.mp h]; exact Int.le_refl _⟩
  | y::r,x=>by
    obtain ⟨h1,h2⟩:=minL_spec r (min x y)
    have e:minL x (y::r)=minL (min x y) r:=rfl
    rw [e]
    refine ⟨?_,fun a ha=>?_⟩
    · rcases List.mem_cons.mp h1 with q | q
      · rw [q]
        rcases Int.le_total x y with z | z
        · rw [Int.min_eq_left z]; simp
        · rw [Int.min_eq_right z]; simp
      · simp [q]
    · have hm:=h2 (min x y) List.mem_cons_self
      rcases List.mem_cons.mp ha with rfl | ha
      · omega
      · rcases List.mem_cons.mp ha with rfl | ha
        · omega
        · exact h2 a (List.mem_cons_of_mem _ ha)
theorem max_uniq {ns:List Int} {M N:Int} (h1:M∈ns) (h2:∀ a∈ns,a≤M) (h3:N∈ns) (h4:∀ a∈ns,a≤N):M=N:=by
  have:=h2 N h3
  have:=h4 M h1
  omega
theorem min_uniq {ns:List Int} {M N:Int} (h1:M∈ns) (h2:∀ a∈ns,M≤a) (h3:N∈ns) (h4:∀ a∈ns,N≤a):M=N:=by
  have:=h2 N h3
  have:=h4 M h1
  omega
def maxD:D→Option D:=ofInts fun ns=>match ns with
  | []=>none
  | x::r=>some (.int (maxL x r))
theorem si_max (ha:SemB K ta a):SemI K (tCB (fun xs H Q=>∃ (p:Addr) (ns:List Int),xs=[.ref p]∧SqL K H p (ns.map V.int)∧ns≠[]∧∀ M,M∈ns→(∀ a,a∈ns→a≤M)→Q (.int M) H) (tCons ta tNil)) (dF1 maxD a):=by
  refine si_f1 (fun h q=>?_) ha
  obtain ⟨ns,rfl,e⟩:=ofInts_some q
  obtain ⟨p,rfl,r⟩:=h.ints
  cases ns with
  | nil=>cases e
  | cons x t =>
    cases e
    refine ⟨rfl,fun k=>⟨p,x::t,rfl,.inl r,by simp,fun M h1 h2=>?_⟩⟩
    rw [max_uniq h1 h2 (maxL_spec t x).1 (maxL_spec t x).2]
    exact k
noncomputable def dMin2:DE→DE→DE:=dII fun i j=>some (.int (if j<i then j else i))
theorem si_min2 (ha:SemB K ta a) (hb:SemB K tb b):SemI K (tCB (fun xs H Q=>∃ i j,xs=[.int i,.int j]∧Q (.int (if j<i then j else i)) H) (tCons ta (tCons tb tNil))) (dMin2 a b):=fun {B Z os ρ σ H Q d} f q k=>by
  obtain ⟨i,j,e1,e2,e3⟩:=dII_some q
  cases e3
  refine ha f e1 fun v H1 s1 i1=>hb (f.grow s1) e2 fun u H2 s2 i2=>⟨i,j,by rw [i1.isInt,i2.isInt],k _ _ (s1.trans s2) (.int _)⟩
def intD:D→Option D
  | .int i=>some (.int i)
  | .bl b=>some (.int (if b=true then 1 else 0))
  | _=>none
theorem si_intF (ha:SemB K ta a):SemI K (tCB (fun xs H Q=>(∃ i,xs=[.int i]∧Q (.int i) H)∨∃ k,xs=[.bl k]∧Q (.int (if k then 1 else 0)) H) (tCons ta tNil)) (dF1 intD a):=by
  refine si_f1 (fun h q=>?_) ha
  cases h with
  | int i=>cases q; exact ⟨rfl,fun k=>.inl ⟨i,rfl,k⟩⟩
  | bl b=>cases q; exact ⟨rfl,fun k=>.inr ⟨b,rfl,k⟩⟩
  | _=>cases q
def D.tyn:D→String
  | .non => "NoneType"
  | .bl _ => "bool"
  | .int _ => "int"
  | .str _ => "str"
  | .lst _ => "list"
  | .tup _ => "tuple"
  | .ty _ => "type"
  | .ins _ => "object"
  | .dct _ => "object"
  | .scr _ => "script"
def isiT:String→String→Option Bool
  | "int", "int" => some true
  | "int", "bool" => some false
  | "int", "list" => some false
  | "int", "tuple" => some false
  | "int", "str" => some false
  | "bool", "int" => some true
  | "bool", "bool" => some true
  | "bool", "list" => some false
  | "bool", "tuple" => some false
  | "list", "list" => some true
  | "list", "tuple" => some false
  | "list", "int" => some false
  | "list", "str" => some false
  | "tuple", "tuple" => some true
  | "tuple", "list" => some false
  | "tuple", "int" => some false
  | "str", "str" => some true
  | "str", "list" => some false
  | "str", "int" => some false
  | "NoneType", "int" => some false
  | "NoneType", "list" => some false
  | "NoneType", "tuple" => some false
  | _,_=>none
noncomputable def dIsi (n:String) (a:DE):DE:=fun ρ=>match a ρ with
  | some d=>(isiT d.tyn n).map D.bl
  | none=>none
theorem isiT_kit {x n:String} {b:Bool} (h:isiT x n=some b):PySem.W.kitOne K (.type x) (.type n)=some b:=by
  unfold isiT at h
  split at h <;> first | (cases h; rfl) | (cases h; with_unfolding_all rfl) | cases h
theorem tyOf_is {H:Hp} {v:V} {d:D} {n:String} {b:Bool} (h:Is K H No v d) (e:isiT d.tyn n=some b):TyOf K H v (.type d.tyn):=by
  cases h with
  | non=>exact .non
  | bl b=>exact .bl b
  | int b=>exact .int b
  | str b=>exact .str b
  | ty n=>unfold isiT at e; simp [D.tyn] at e
  | lst hz h hl r=>rcases h with h | ⟨o,h⟩; exact .lst h; exact .frz h
  | tup hz h hl r=>exact .tup h
  | ins _ _=>unfold isiT at e; simp [D.tyn] at e
  | dct _ _ _=>unfold isiT at e; simp [D.tyn] at e
  | scr _ _ _=>unfold isiT at e; simp [D.tyn] at e
  | scrK _ _=>unfold isiT at e; simp [D.tyn] at e
theorem si_isi {n:String} (ha:SemB K ta a):SemI K (tCB (fun xs H Q=>∃ x n t b,xs=[x,.ty n]∧TyOf K H x t∧PySem.W.kitOne K t (.type n)=some b∧Q (.bl b) H) (tCons ta (tCons (tC (.ty n)) tNil))) (dIsi n a):=fun {B Z os ρ σ H Q d} f q k=>by
  unfold dIsi at q
  split at q
  · rename_i e e1
    cases q1:isiT e.tyn n with
    | none=>rw [q1] at q; cases q
    | some b =>
      rw [q1] at q
      cases q
      exact ha f e1 fun v H1 s1 i1=>⟨v,n,_,b,rfl,tyOf_is i1 q1,isiT_kit q1,k _ _ s1 (.bl b)⟩
  · cases q
noncomputable def oNone:Rho→Option (Option Int):=fun _=>some none
def asL (a:DE):Rho→Option (List D):=fun ρ=>match a ρ with
  | some d=>lof d
  | none=>none
theorem asL_some {a:DE} {ρ:Rho} {ds:List D} (h:asL a ρ=some ds):∃ d,a ρ=some d∧lof d=some ds:=by
  unfold asL at h
  split at h
  · exact ⟨_,by assumption,h⟩
  · cases h
theorem Is.isLst {H:Hp} {Z:Addr→Prop} {v:V} {ds:List D} (h:Is K H Z v (.lst ds)):∃ p vs,v=.ref p∧¬ Z p∧Rd H p (.lst vs)∧vs.length≤sizeLine∧IsL K H Z vs ds:=by
  cases h with
  | lst hz h hl r=>exact ⟨_,_,rfl,hz,h,hl,r⟩
theorem Is.isTup {H:Hp} {Z:Addr→Prop} {v:V} {ds:List D} (h:Is K H Z v (.tup ds)):∃ p vs,v=.ref p∧¬ Z p∧H p=some (.tup vs)∧vs.length≤sizeLine∧IsL K H Z vs ds:=by
  cases h with
  | tup hz h hl r=>exact ⟨_,_,rfl,hz,h,hl,r⟩
def flatL (ds:List D):Bool:=ds.all D.scal
theorem IsL.flat {H H':Hp} {Z Z':Addr→Prop}:∀ {vs:List V} {ds:List D},IsL K H Z vs ds→flatL ds=true→IsL K H' Z' vs ds
  | _,_,.nil,_=>.nil
  | _,_,.cons h r,e=>by
    have e:=(Bool.and_eq_true _ _).mp (show (D.scal _&&flatL _)=true from e)
    exact .cons (h.scal e.1) (r.flat e.2)
noncomputable def gFlat (e:Rho→Option (List D)):Rho→Option (List D):=fun ρ=>match e ρ with
  | some ds=>if flatL ds=true then some ds else none
  | none=>none
theorem gFlat_some {e:Rho→Option (List D)} {ρ:Rho} {ds:List D} (h:gFlat e ρ=some ds):e ρ=some ds∧flatL ds=true:=by
  unfold gFlat at h
  split at h
  · rename_i es e1
    by_cases c:flatL es=true
    · rw [if_pos c] at h; cases h; exact ⟨e1,c⟩
    · rw [if_neg c] at h; cases h
  · cases h
noncomputable def dLof (a:DE):Rho→Option (List D):=fun ρ=>match a ρ with
  | some (.tup ds)=>some ds
  | some d=>lof d
  | _=>none
theorem dLof_some {ρ:Rho} {ds:List D} (h:dLof a ρ=some ds):a ρ=some (.tup ds)∨∃ d,a ρ=some d∧lof d=some ds:=by
  unfold dLof at h
  split at h
  · rename_i es e; cases h; exact .inl e
  · rename_i d _ e; exact .inr ⟨d,e,h⟩
  · cases h
theorem sf_list (ha:SemI K ta a):SemF K (tCB (fun xs H Q=>∃ p ys,xs=[.ref p]∧(SqL K H p ys∨SqT K H p ys)∧∀ l,H l=none→Q (.ref l) (upd H l (.lst ys))) (tCons ta tNil)) (dLof a):=fun {B Z os ρ σ H Q ds} f q k=>by
  rcases dLof_some q with e1 | ⟨d,e1,ed⟩
  · refine ha f e1 fun v H1 s1 i1=>?_
    obtain ⟨p,vs,rfl,hz,hr,hn,r⟩:=i1.isTup
    exact ⟨p,vs,rfl,.inr (.inl (.inl hr)),fun n hn'=>k n _ _ (s1.trans (same_new hn')) (Same.free s1 hn') upd_same hn (r.kp (kp_new hn'))⟩
  · refine ha f e1 fun v H1 s1 i1=>?_
    obtain ⟨p,vs,rfl,hn,_,hr⟩:=i1.seq ed
    obtain ⟨hr,r⟩:=hr H1 _ Kp.refl
    exact ⟨p,vs,rfl,.inl hr,fun n hn'=>k n _ _ (s1.trans (same_new hn')) (Same.free s1 hn') upd_same hn (r.kp (kp_new hn'))⟩
theorem sf_listB (ha:SemB K ta a):SemF K (tCB (fun xs H Q=>∃ p ys,xs=[.ref p]∧(SqL K H p ys∨SqT K H p ys)∧∀ l,H l=none→Q (.ref l) (upd H l (.lst ys))) (tCons ta tNil)) (gFlat (dLof a)):=fun {B Z os ρ σ H Q ds} f q k=>by
  obtain ⟨q,hf⟩:=gFlat_some q
  rcases dLof_some q with e1 | ⟨d,e1,ed⟩
  · refine ha f e1 fun v H1 s1 i1=>?_
    obtain ⟨p,vs,rfl,hz,hr,hn,r⟩:=i1.isTup
    exact ⟨p,vs,rfl,.inr (.inl (.inl hr)),fun n hn'=>k n _ _ (s1.trans (same_new hn')) (Same.free s1 hn') upd_same hn (r.flat hf)⟩
  · refine ha f e1 fun v H1 s1 i1=>?_
    obtain ⟨p,vs,rfl,hn,_,hr⟩:=i1.seq ed
    obtain ⟨hr,r⟩:=hr H1 _ Kp.refl
    exact ⟨p,vs,rfl,.inl hr,fun n hn'=>k n _ _ (s1.trans (same_new hn')) (Same.free s1 hn') upd_same hn (r.flat hf)⟩
noncomputable def dCat (a b:DE):Rho→Option (List D):=fun ρ=>match a ρ with
  | some (.lst ds)=>(match b ρ with
    | some (.lst es)=>if ds.length+es.length≤sizeLine then some (ds++es) else none
    | _=>none)
  | _=>none
theorem dCat_some {ρ:Rho} {ds:List D} (h:dCat a b ρ=some ds):∃ xs ys,a ρ=some (.lst xs)∧b ρ=some (.lst ys)∧xs.length+ys.length≤sizeLine∧ds=xs++ys:=by
  unfold dCat at h
  split at h
  · rename_i xs e1
    split at h
    · rename_i ys e2
      by_cases c:xs.length+ys.length≤sizeLine
      · rw [if_pos c] at h; exact ⟨xs,ys,e1,e2,c,(Option.some.inj h).symm⟩
      · rw [if_neg c] at h; cases h
    · cases h
  · cases h
theorem sf_cat (ha:SemI K ta a) (hb:SemI K tb b):SemF K (tOp rCatR ta tb) (dCat a b):=fun {B Z os ρ σ H Q ds} f q k=>by
  obtain ⟨xs,ys,e1,e2,hc,rfl⟩:=dCat_some q
  refine ha f e1 fun v H1 s1 i1=>hb (f.grow s1) e2 fun u H2 s2 i2=>?_
  obtain ⟨p,vs,rfl,hz,hr,hn,r⟩:=(i1.same s2).isLst
  obtain ⟨p2,us,rfl,hz2,hr2,hn2,r2⟩:=i2.isLst
  have hl:vs.length+us.length≤sizeLine:=by rw [r.length,r2.length]; exact hc
  have s12:=s1.trans s2
  exact ⟨p,p2,vs,us,rfl,rfl,hr,hr2,hl,fun n hn'=>k n _ _ (s12.trans (same_new hn')) (Same.free s12 hn') upd_same (by rw [List.length_append]; exact hl) ((r.append r2).kp (kp_new hn'))⟩
noncomputable def dRep (a:Rho→Option (List D)) (b:DE):Rho→Option (List D):=fun ρ=>match a ρ with
  | some ds=>(match b ρ with
    | some (.int n)=>if -(2 ^ 63)≤n∧n<2 ^ 63∧ds.length*n.toNat≤sizeLine then some (List.replicate n.toNat ds).flatten else none
    | _=>none)
  | none=>none
theorem IsL.rep {H:Hp} {Z:Addr→Prop} {vs:List V} {ds:List D} (r:IsL K H Z vs ds):∀ n,IsL K H Z (List.replicate n vs).flatten (List.replicate n ds).flatten
  | 0=>.nil
  | n+1=>by rw [List.replicate_succ,List.flatten_cons,List.replicate_succ,List.flatten_cons]; exact r.append (r.rep n)
theorem sf_rep {a:Rho→Option (List D)} (ha:SemF K ta a) (hb:SemB K tb b):SemF K (tOp rRep ta tb) (dRep a b):=fun {B Z os ρ σ H Q ds} f q k=>by
  unfold dRep at q
  split at q
  · rename_i es e1
    split at q
    · rename_i n e2
      by_cases c:-(2 ^ 63)≤n∧n<2 ^ 63∧es.length*n.toNat≤sizeLine
      · rw [if_pos c] at q
        cases q
        refine ha f e1 fun p vs H1 s1 hp hp' hl i1=>hb (f.grow s1) e2 fun u H2 s2 i2=>?_
        rw [i2.isInt]
        have i1':=(i1.same s2).kp (Kp.less (Z':=tot Z os) fun a z=>.inr z)
        have hlen:vs.length*n.toNat≤sizeLine:=by rw [i1.length]; exact c.2.2
        have s12:=s1.trans s2
        refine ⟨p,n,vs,rfl,rfl,s2 _ _ hp',c.1,c.2.1,hlen,fun x hx=>k x _ _ (s12.trans (same_new hx)) (Same.free s12 hx) upd_same ?_ ((i1'.rep _).kp (kp_new hx))⟩
        rw [len_rep,Nat.mul_comm]; exact hlen
      · rw [if_neg c] at q; cases q
    · cases q
  · cases q
def inS:D→List D→Option Bool
  | .int i,ds=>(asInts ds).map fun ns=>decide (i∈ns)
  | _,_=>none
theorem inV_ints' (k:Int) (hs:List Int):inV (.int k) (hs.map V.int)=decide (k∈hs):=by
  unfold inV
  rw [List.any_map,Bool.eq_iff_iff,List.any_eq_true,decide_eq_true_iff]
  constructor
  · rintro ⟨x,hx,e⟩
    have e':(x==k)=true:=e
    rw [← beq_iff_eq.mp e']
    exact hx
  · intro h
    exact ⟨k,h,show (k==k)=true from beq_self_eq_true k⟩
theorem flat_ints' (hs:List Int):(hs.map V.int).all flatV=true:=by
  rw [List.all_map,List.all_eq_true]
  intro x _
  rfl
noncomputable def dIn (neg:Bool) (a b:DE):DE:=fun ρ=>match a ρ with
  | some d=>(match b ρ with
    | some (.lst ds)=>(inS d ds).map fun c=>.bl (if neg then !c else c)
    | some (.tup ds)=>(inS d ds).map fun c=>.bl (if neg then !c else c)
    | _=>none)
  | none=>none
theorem inS_is {H:Hp} {Z:Addr→Prop} {v:V} {d:D} {vs:List V} {ds:List D} {c:Bool} (i:Is K H Z v d) (r:IsL K H Z vs ds) (h:inS d ds=some c):flatV v=true∧vs.all flatV=true∧inV v vs=c:=by
  cases i with
  | int i =>
    have h:(asInts ds).map (fun ns=>decide (i∈ns))=some c:=h
    cases e:asInts ds with
    | none=>rw [e] at h; cases h
    | some ns =>
      rw [e] at h
      cases h
      have e2:=asInts_some e
      subst e2
      rw [r.ints]
      exact ⟨rfl,flat_ints' ns,inV_ints' i ns⟩
  | _=>cases h
theorem si_in {neg:Bool} (ha:SemB K ta a) (hb:SemB K tb b):SemI K (tOp (rIn K neg) ta tb) (dIn neg a b):=fun {B Z os ρ σ H Q d} f q k=>by
  unfold dIn at q
  split at q
  · rename_i e e1
    split at q
    · rename_i ds e2
      cases q1:inS e ds with
      | none=>rw [q1] at q; cases q
      | some c =>
        rw [q1] at q
        cases q
        refine ha f e1 fun v H1 s1 i1=>hb (f.grow s1) e2 fun u H2 s2 i2=>?_
        obtain ⟨p,vs,rfl,hz,hr,hn,r⟩:=i2.isLst
        obtain ⟨h1,h2,h3⟩:=inS_is (i1.same s2) r q1
        exact ⟨p,vs,rfl,.inl (.inl hr),h1,h2,by rw [h3]; exact k _ _ (s1.trans s2) (.bl _)⟩
    · rename_i ds e2
      cases q1:inS e ds with
      | none=>rw [q1] at q; cases q
      | some c =>
        rw [q1] at q
        cases q
        refine ha f e1 fun v H1 s1 i1=>hb (f.grow s1) e2 fun u H2 s2 i2=>?_
        obtain ⟨p,vs,rfl,hz,hr,hn,r⟩:=i2.isTup
        obtain ⟨h1,h2,h3⟩:=inS_is (i1.same s2) r q1
        exact ⟨p,vs,rfl,.inr (.inl (.inl hr)),h1,h2,by rw [h3]; exact k _ _ (s1.trans s2) (.bl _)⟩
    · cases q
  · cases q
end
end
end VL
namespace VL
open PySem L2
open Classical
noncomputable section
instance:Inhabited D:=⟨.non⟩
theorem rd_lst {H:Hp} {a:Addr} {xs ys:List V} (h:Rd H a (.lst xs)) (h':Rd H a (.lst ys)):xs=ys:=by
  rcases h with h | ⟨o,h⟩ <;> rcases h' with h' | ⟨o',h'⟩ <;> rw [h] at h' <;> cases h' <;> rfl
def cmpb:Nat→D→D→Bool
  | _,.int _,.int _=>true
  | _,.bl _,.bl _=>true
  | _,.str _,.str _=>true
  | _,.non,.non=>true
  | n+1,.lst xs,.lst ys=>decide (xs.length≠ys.length) || (List.zip xs ys).all fun p=>cmpb n p.1 p.2
  | n+1,.tup xs,.tup ys=>decide (xs.length=ys.length)&&(List.zip xs ys).all fun p=>cmpb n p.1 p.2
  | _,_,_=>false
theorem zip_at {xs ys:List D} {j:Nat} {a b:D} {p:D×D→Bool} (h:(List.zip xs ys).all p=true) (e1:xs[j]?=some a) (e2:ys[j]?=some b):p (a,b)=true :=
  List.all_eq_true.mp h _ (List.mem_of_getElem? (i:=j) (List.getElem?_zip_eq_some.mpr ⟨e1,e2⟩))
inductive Cm:Nat→D→D→Prop
  | int {n:Nat} (a b:Int):Cm n (.int a) (.int b)
  | bl {n:Nat} (a b:Bool):Cm n (.bl a) (.bl b)
  | str {n:Nat} (a b:Str):Cm n (.str a) (.str b)
  | non {n:Nat}:Cm n .non .non
  | lst {n:Nat} {xs ys:List D} (h:xs.length=ys.length→(List.zip xs ys).all (fun p=>cmpb n p.1 p.2)=true):Cm (n+1) (.lst xs) (.lst ys)
  | tup {n:Nat} {xs ys:List D} (hl:xs.length=ys.length) (h:(List.zip xs ys).all (fun p=>cmpb n p.1 p.2)=true):Cm (n+1) (.tup xs) (.tup ys)
theorem cmpb_inv {n:Nat} {d e:D} (hc:cmpb n d e=true):Cm n d e:=by
  unfold cmpb at hc
  split at hc
  · exact .int _ _
  · exact .bl _ _
  · exact .str _ _
  · exact .non
  · exact .lst fun hl=>by simpa [hl] using hc
  · rw [Bool.and_eq_true] at hc; exact .tup (of_decide_eq_true hc.1) hc.2
  · cases hc
theorem Is.v_int {H:Hp} {Z:Addr→Prop} {v:V} {a:Int} (i:Is K H Z v (.int a)):v=.int a:=by cases i; rfl
theorem Is.v_bl {H:Hp} {Z:Addr→Prop} {v:V} {a:Bool} (i:Is K H Z v (.bl a)):v=.bl a:=by cases i; rfl
theorem Is.v_str {H:Hp} {Z:Addr→Prop} {v:V} {a:Str} (i:Is K H Z v (.str a)):v=.str a:=by cases i; rfl
theorem Is.v_non {H:Hp} {Z:Addr→Prop} {v:V} (i:Is K H Z v .non):v=.non:=by cases i; rfl
theorem Is.v_lst {H:Hp} {Z:Addr→Prop} {v:V} {ds:List D} (i:Is K H Z v (.lst ds)):∃ a vs,v=.ref a∧¬ Z a∧Rd H a (.lst vs)∧vs.length≤sizeLine∧IsL K H Z vs ds:=by
  cases i with | lst hz h hl r=>exact ⟨_,_,rfl,hz,h,hl,r⟩
theorem Is.v_tup {H:Hp} {Z:Addr→Prop} {v:V} {ds:List D} (i:Is K H Z v (.tup ds)):∃ a vs,v=.ref a∧¬ Z a∧H a=some (.tup vs)∧vs.length≤sizeLine∧IsL K H Z vs ds:=by
  cases i with | tup hz h hl r=>exact ⟨_,_,rfl,hz,h,hl,r⟩
theorem Is.inj {H:Hp} {Z Z':Addr→Prop}:∀ (n:Nat) {v:V} {d e:D},cmpb n d e=true→Is K H Z v d→Is K H Z' v e→d=e:=by
  intro n
  induction n using Nat.strongRecOn with | ind n ih=>?_
  have lists:∀ {m:Nat},m<n→∀ {vs:List V} {ds es:List D},(List.zip ds es).all (fun p=>cmpb m p.1 p.2)=true→IsL K H Z vs ds→IsL K H Z' vs es→ds=es:=by
    intro m hm vs ds es hc r r'
    have l1:=r.length
    have l2:=r'.length
    refine List.ext_getElem (by omega) fun k h1 h2=>?_
    obtain ⟨v,e1,i1⟩:=r.get (List.getElem?_eq_getElem h1)
    obtain ⟨v',e2,i2⟩:=r'.get (List.getElem?_eq_getElem h2)
    rw [e1] at e2
    cases e2
    exact ih m hm (zip_at hc (List.getElem?_eq_getElem h1) (List.getElem?_eq_getElem h2)) i1 i2
  intro v d e hc i j
  cases cmpb_inv hc with
  | int=>have h:=i.v_int; rw [j.v_int] at h; cases h; rfl
  | bl=>have h:=i.v_bl; rw [j.v_bl] at h; cases h; rfl
  | str=>have h:=i.v_str; rw [j.v_str] at h; cases h; rfl
  | non=>rfl
  | lst h =>
    obtain ⟨p,xs,rfl,z1,h1,l1,g1⟩:=i.v_lst
    obtain ⟨q,ys,e,z2,h2,l2,g2⟩:=j.v_lst
    cases e
    have e:=rd_lst h1 h2
    subst e
    rw [lists (Nat.lt_succ_self _) (h (by have:=g1.length; have:=g2.length; omega)) g1 g2]
  | tup hl h =>
    obtain ⟨p,xs,rfl,z1,h1,l1,g1⟩:=i.v_tup
    obtain ⟨q,ys,e,z2,h2,l2,g2⟩:=j.v_tup
    cases e
    rw [h1] at h2
    cases h2
    rw [lists (Nat.lt_succ_self _) h g1 g2]
section
variable {X:Cx} {pins:List (Addr×Obj)} {σ:L2.St} {H:Hp} {s:Shared}
theorem dec_lst (xs ys:List D):decide (D.lst xs=D.lst ys)=decide (xs=ys):=by
  rw [Bool.eq_iff_iff,decide_eq_true_iff,decide_eq_true_iff]
  exact ⟨fun h=>D.lst.inj h,fun h=>by rw [h]⟩
theorem dec_tup (xs ys:List D):decide (D.tup xs=D.tup ys)=decide (xs=ys):=by
  rw [Bool.eq_iff_iff,decide_eq_true_iff,decide_eq_true_iff]
  exact ⟨fun h=>D.tup.inj h,fun h=>by rw [h]⟩
theorem dec_int (a b:Int):decide (D.int a=D.int b)=(a==b):=by
  rw [Bool.eq_iff_iff,decide_eq_true_iff,beq_iff_eq]
  exact ⟨fun h=>D.int.inj h,fun h=>by rw [h]⟩
theorem dec_bl (a b:Bool):decide (D.bl a=D.bl b)=(a==b):=by
  rw [Bool.eq_iff_iff,decide_eq_true_iff,beq_iff_eq]
  exact ⟨fun h=>D.bl.inj h,fun h=>by rw [h]⟩
theorem dec_str (a b:Str):decide (D.str a=D.str b)=(a==b):=by
  rw [Bool.eq_iff_iff,decide_eq_true_iff,beq_iff_eq]
  exact ⟨fun h=>D.str.inj h,fun h=>by rw [h]⟩
theorem rc_tups {A:Around} {l b:Addr} {us ws:List Value} {ns ms:List D} (p1:s.heap.IsTuple l us.toArray) (p2:s.heap.IsTuple b ws.toArray) (hl:us.length=ns.length) (hl2:ws.length=ms.length) (hs:ns.length=ms.length) (hu:A.units<cLine)
    (h:∀ (j:Nat) (u v:Value) (a b:D),us[j]?=some u→ws[j]?=some v→ns[j]?=some a→ms[j]?=some b→SeqAt.EqAt A.in1 s u v (decide (a=b))) :
    SeqAt.RcAt A s (.ref l) (.ref b) (decide (ns=ms)):=by
  have q:=SeqAt.RcAt.tuples (e:=fun j=>decide (ns.getD j default=ms.getD j default)) p1 p2 hu (eqAt_items hl hl2 h)
  have e:((List.range (min us.toArray.size ws.toArray.size)).all fun j=>decide (ns.getD j default=ms.getD j default))=decide (ns=ms):=by
    rw [List.size_toArray,List.size_toArray,hl,hl2,← hs,Nat.min_self]; exact range_all_eq default hs
  have e2:(us.toArray.size==ws.toArray.size)=true:=by simp; omega
  rw [e,e2,Bool.and_true] at q
  exact q
theorem rcNe_tups {A:Around} {l b:Addr} {us ws:List Value} {ns ms:List D} (p1:s.heap.IsTuple l us.toArray) (p2:s.heap.IsTuple b ws.toArray) (hl:us.length=ns.length) (hl2:ws.length=ms.length) (hs:ns.length=ms.length) (hu:A.units<cLine)
    (h:∀ (j:Nat) (u v:Value) (a b:D),us[j]?=some u→ws[j]?=some v→ns[j]?=some a→ms[j]?=some b→SeqAt.EqAt A.in1 s u v (decide (a=b))) :
    SeqAt.RcNeAt A s (.ref l) (.ref b) (!decide (ns=ms)):=by
  have q:=SeqAt.RcNeAt.tuples (e:=fun j=>decide (ns.getD j default=ms.getD j default)) p1 p2 hu (eqAt_items hl hl2 h)
  have e:((List.range (min us.toArray.size ws.toArray.size)).all fun j=>decide (ns.getD j default=ms.getD j default))=decide (ns=ms):=by
    rw [List.size_toArray,List.size_toArray,hl,hl2,← hs,Nat.min_self]; exact range_all_eq default hs
  have e2:(us.toArray.size==ws.toArray.size)=true:=by simp; omega
  rw [e,e2,Bool.and_true] at q
  exact q
theorem in1_units {A:Around}:A.in1.units=A.units+1:=rfl
theorem items_is {n:Nat} {A:Around} {xs ys:List V} {us ws:List Value} {ds es:List D} (hc:(List.zip ds es).all (fun p=>cmpb n p.1 p.2)=true) (r1:Vals xs us) (r2:Vals ys ws) (g1:IsL K H No xs ds) (g2:IsL K H No ys es)
    (ih:∀ {v w:V} {d e:D} {u x:Value},RelV v u→RelV w x→Is K H No v d→Is K H No w e→cmpb n d e=true→SeqAt.EqAt A s u x (decide (d=e))) :
    ∀ (j:Nat) (u v:Value) (a b:D),us[j]?=some u→ws[j]?=some v→ds[j]?=some a→es[j]?=some b→SeqAt.EqAt A s u v (decide (a=b)):=by
  intro j u v a b e1 e2 e3 e4
  obtain ⟨x,f1,i1⟩:=g1.get e3
  obtain ⟨y,f2,i2⟩:=g2.get e4
  obtain ⟨u',q1,k1⟩:=r1.get f1
  obtain ⟨v',q2,k2⟩:=r2.get f2
  rw [e1] at q1; cases q1
  rw [e2] at q2; cases q2
  exact ih k1 k2 i1 i2 (zip_at hc e3 e4)
theorem eqAt_is (I:Inv X pins σ H s):∀ (n:Nat) {A:Around},A.units+n<cLine→∀ {v w:V} {d e:D} {u x:Value},RelV v u→RelV w x→Is K H No v d→Is K H No w e→cmpb n d e=true→SeqAt.EqAt A s u x (decide (d=e)):=by
  intro n
  induction n using Nat.strongRecOn with | ind n ih=>?_
  intro A hu v w d e u x r1 r2 i1 i2 hc
  have hc0:=hc
  cases cmpb_inv hc with
  | int a b=>rw [i1.v_int] at r1; rw [i2.v_int] at r2; obtain ⟨t,rfl⟩:=r1; obtain ⟨t',rfl⟩:=r2; rw [dec_int]; exact SeqAt.EqAt.int_int a t b t'
  | bl a b=>rw [i1.v_bl] at r1; rw [i2.v_bl] at r2; cases r1; cases r2; rw [dec_bl]; exact SeqAt.EqAt.bool_bool a b
  | str a b=>rw [i1.v_str] at r1; rw [i2.v_str] at r2; obtain ⟨t,rfl⟩:=r1; obtain ⟨t',rfl⟩:=r2; rw [dec_str]; exact SeqAt.EqAt.str_str a t b t'
  | non=>rw [i1.v_non] at r1; rw [i2.v_non] at r2; cases r1; cases r2; rw [decide_eq_true rfl]; exact SeqAt.EqAt.same _
  | @lst n ds es h =>
    have j1:=i1
    have j2:=i2
    obtain ⟨p,xs,rfl,z1,h1,l1,g1⟩:=i1.v_lst
    obtain ⟨q,ys,rfl,z2,h2,l2,g2⟩:=i2.v_lst
    cases r1
    cases r2
    by_cases hpq:p=q
    · subst hpq
      rw [decide_eq_true (Is.inj _ hc0 j1 j2)]
      exact SeqAt.EqAt.same _
    · obtain ⟨_,us,m1,k1,n1,o1⟩:=I.lstR h1
      obtain ⟨_,ws,m2,k2,n2,o2⟩:=I.lstR h2
      rw [dec_lst]
      have e1:=g1.length
      have e2:=g2.length
      refine SeqAt.EqAt.of_refs hpq ?_
      by_cases hl:ds.length=es.length
      · exact rcAt_lists ⟨_,o1,rfl,_,rfl⟩ ⟨_,o2,rfl,_,rfl⟩ (by omega) (by omega) (by omega) (items_is (h hl) k1 k2 g1 g2 (ih n (Nat.lt_succ_self _) (by rw [in1_units]; omega)))
      · have q:=SeqAt.RcAt.lists_lengths (A:=A) (s:=s) (items:=us.toArray) (items2:=ws.toArray) ⟨_,o1,rfl,_,rfl⟩ ⟨_,o2,rfl,_,rfl⟩ (by simp; omega) (by omega)
        have e:decide (ds=es)=false:=decide_eq_false fun z=>hl (by rw [z])
        rw [e]
        exact q
  | @tup n ds es hl h =>
    have j1:=i1
    have j2:=i2
    obtain ⟨p,xs,rfl,z1,h1,l1,g1⟩:=i1.v_tup
    obtain ⟨q,ys,rfl,z2,h2,l2,g2⟩:=i2.v_tup
    cases r1
    cases r2
    by_cases hpq:p=q
    · subst hpq
      rw [decide_eq_true (Is.inj _ hc0 j1 j2)]
      exact SeqAt.EqAt.same _
    · obtain ⟨us,k1,o1,_⟩:=I.tuple (xs:=xs) (.inl (.inl h1))
      obtain ⟨ws,k2,o2,_⟩:=I.tuple (xs:=ys) (.inl (.inl h2))
      rw [dec_tup]
      have e1:=g1.length
      have e2:=g2.length
      have n1:=k1.length
      have n2:=k2.length
      exact SeqAt.EqAt.of_refs hpq (rc_tups o1 o2 (by omega) (by omega) hl (by omega) (items_is h k1 k2 g1 g2 (ih n (Nat.lt_succ_self _) (by rw [in1_units]; omega))))
def rEqD (K:PySem.W.Frag) (neg:Bool):R2:=fun x y H Q=>∃ d e,Is K H No x d∧Is K H No y e∧cmpb 20 d e=true∧Q (.bl (if neg=true then !decide (d=e) else decide (d=e))) H
theorem op_eqD (hu:X.A.units+64<cLine):OpR X (compareOp .Eq) (rEqD K false):=by
  intro pins s σ H x y v u Q I rx ry h
  obtain ⟨d,e,i1,i2,hc,h⟩:=h
  rw [if_neg Bool.false_ne_true] at h
  cases cmpb_inv hc with
  | int a b=>obtain rfl:=i1.v_int; obtain rfl:=i2.v_int; exact op_eq pins s σ H _ _ v u Q I rx ry ⟨rfl,by rw [show decide (V.int a=V.int b)=decide (D.int a=D.int b) from decide_eq_decide.mpr ⟨fun q=>by cases q; rfl,fun q=>by cases q; rfl⟩]; exact h⟩
  | bl a b=>obtain rfl:=i1.v_bl; obtain rfl:=i2.v_bl; exact op_eq pins s σ H _ _ v u Q I rx ry ⟨rfl,by rw [show decide (V.bl a=V.bl b)=decide (D.bl a=D.bl b) from decide_eq_decide.mpr ⟨fun q=>by cases q; rfl,fun q=>by cases q; rfl⟩]; exact h⟩
  | str a b=>obtain rfl:=i1.v_str; obtain rfl:=i2.v_str; exact op_eq pins s σ H _ _ v u Q I rx ry ⟨rfl,by rw [show decide (V.str a=V.str b)=decide (D.str a=D.str b) from decide_eq_decide.mpr ⟨fun q=>by cases q; rfl,fun q=>by cases q; rfl⟩]; exact h⟩
  | non=>obtain rfl:=i1.v_non; obtain rfl:=i2.v_non; exact op_eq pins s σ H _ _ v u Q I rx ry ⟨rfl,by rw [show decide (V.non=V.non)=decide (D.non=D.non) from decide_eq_decide.mpr ⟨fun q=>rfl,fun q=>rfl⟩]; exact h⟩
  | @lst n ds es hh =>
    obtain ⟨p,xs,rfl,z1,h1,l1,g1⟩:=i1.v_lst
    obtain ⟨q,ys,rfl,z2,h2,l2,g2⟩:=i2.v_lst
    cases rx
    cases ry
    obtain ⟨_,us,m1,k1,n1,o1⟩:=I.lstR h1
    obtain ⟨_,ws,m2,k2,n2,o2⟩:=I.lstR h2
    rw [dec_lst] at h
    have e1:=g1.length
    have e2:=g2.length
    by_cases hl:ds.length=es.length
    · exact rcAt_lists ⟨_,o1,rfl,_,rfl⟩ ⟨_,o2,rfl,_,rfl⟩ (by omega) (by omega) (by omega) (items_is (hh hl) k1 k2 g1 g2 (eqAt_is I 19 (by rw [in1_units]; omega))) X.prog X.w X.xe _ ⟨.bl _,H,I,rfl,h⟩
    · have q:=SeqAt.RcAt.lists_lengths (A:=X.A) (s:=s) (items:=us.toArray) (items2:=ws.toArray) ⟨_,o1,rfl,_,rfl⟩ ⟨_,o2,rfl,_,rfl⟩ (by simp; omega) (by omega)
      have e:decide (ds=es)=false:=decide_eq_false fun z=>hl (by rw [z])
      rw [e] at h
      exact q X.prog X.w X.xe _ ⟨.bl _,H,I,rfl,h⟩
  | @tup n ds es hl hh =>
    obtain ⟨p,xs,rfl,z1,h1,l1,g1⟩:=i1.v_tup
    obtain ⟨q,ys,rfl,z2,h2,l2,g2⟩:=i2.v_tup
    cases rx
    cases ry
    obtain ⟨us,k1,o1,_⟩:=I.tuple (xs:=xs) (.inl (.inl h1))
    obtain ⟨ws,k2,o2,_⟩:=I.tuple (xs:=ys) (.inl (.inl h2))
    rw [dec_tup] at h
    have e1:=g1.length
    have e2:=g2.length
    have n1:=k1.length
    have n2:=k2.length
    exact rc_tups o1 o2 (by omega) (by omega) hl (by omega) (items_is hh k1 k2 g1 g2 (eqAt_is I 19 (by rw [in1_units]; omega))) X.prog X.w X.xe _ ⟨.bl _,H,I,rfl,h⟩
theorem op_neD (hu:X.A.units+64<cLine):OpR X (compareOp .NotEq) (rEqD K true):=by
  intro pins s σ H x y v u Q I rx ry h
  obtain ⟨d,e,i1,i2,hc,h⟩:=h
  rw [if_pos rfl] at h
  cases cmpb_inv hc with
  | int a b=>obtain rfl:=i1.v_int; obtain rfl:=i2.v_int; exact op_ne pins s σ H _ _ v u Q I rx ry ⟨rfl,by rw [show decide (V.int a=V.int b)=decide (D.int a=D.int b) from decide_eq_decide.mpr ⟨fun q=>by cases q; rfl,fun q=>by cases q; rfl⟩]; exact h⟩
  | bl a b=>obtain rfl:=i1.v_bl; obtain rfl:=i2.v_bl; exact op_ne pins s σ H _ _ v u Q I rx ry ⟨rfl,by rw [show decide (V.bl a=V.bl b)=decide (D.bl a=D.bl b) from decide_eq_decide.mpr ⟨fun q=>by cases q; rfl,fun q=>by cases q; rfl⟩]; exact h⟩
  | str a b=>obtain rfl:=i1.v_str; obtain rfl:=i2.v_str; exact op_ne pins s σ H _ _ v u Q I rx ry ⟨rfl,by rw [show decide (V.str a=V.str b)=decide (D.str a=D.str b) from decide_eq_decide.mpr ⟨fun q=>by cases q; rfl,fun q=>by cases q; rfl⟩]; exact h⟩
  | non=>obtain rfl:=i1.v_non; obtain rfl:=i2.v_non; exact op_ne pins s σ H _ _ v u Q I rx ry ⟨rfl,by rw [show decide (V.non=V.non)=decide (D.non=D.non) from decide_eq_decide.mpr ⟨fun q=>rfl,fun q=>rfl⟩]; exact h⟩
  | @lst n ds es hh =>
    obtain ⟨p,xs,rfl,z1,h1,l1,g1⟩:=i1.v_lst
    obtain ⟨q,ys,rfl,z2,h2,l2,g2⟩:=i2.v_lst
    cases rx
    cases ry
    obtain ⟨_,us,m1,k1,n1,o1⟩:=I.lstR h1
    obtain ⟨_,ws,m2,k2,n2,o2⟩:=I.lstR h2
    rw [dec_lst] at h
    have e1:=g1.length
    have e2:=g2.length
    by_cases hl:ds.length=es.length
    · exact rcNeAt_lists ⟨_,o1,rfl,_,rfl⟩ ⟨_,o2,rfl,_,rfl⟩ (by omega) (by omega) (by omega) (items_is (hh hl) k1 k2 g1 g2 (eqAt_is I 19 (by rw [in1_units]; omega))) X.prog X.w X.xe _ ⟨.bl _,H,I,rfl,h⟩
    · have q:=SeqAt.RcNeAt.lists_lengths (A:=X.A) (s:=s) (items:=us.toArray) (items2:=ws.toArray) ⟨_,o1,rfl,_,rfl⟩ ⟨_,o2,rfl,_,rfl⟩ (by simp; omega) (by omega)
      have e:decide (ds=es)=false:=decide_eq_false fun z=>hl (by rw [z])
      rw [e] at h
      exact q X.prog X.w X.xe _ ⟨.bl _,H,I,rfl,h⟩
  | @tup n ds es hl hh =>
    obtain ⟨p,xs,rfl,z1,h1,l1,g1⟩:=i1.v_tup
    obtain ⟨q,ys,rfl,z2,h2,l2,g2⟩:=i2.v_tup
    cases rx
    cases ry
    obtain ⟨us,k1,o1,_⟩:=I.tuple (xs:=xs) (.inl (.inl h1))
    obtain ⟨ws,k2,o2,_⟩:=I.tuple (xs:=ys) (.inl (.inl h2))
    rw [dec_tup] at h
    have e1:=g1.length
    have e2:=g2.length
    have n1:=k1.length
    have n2:=k2.length
    exact rcNe_tups o1 o2 (by omega) (by omega) hl (by omega) (items_is hh k1 k2 g1 g2 (eqAt_is I 19 (by rw [in1_units]; omega))) X.prog X.w X.xe _ ⟨.bl _,H,I,rfl,h⟩
end
section
variable {ta tb:TE} {a b:DE}
noncomputable def dEq (neg:Bool) (a b:DE):DE:=fun ρ=>match a ρ with
  | some d=>(match b ρ with
    | some e=>if cmpb 20 d e=true then some (.bl (if neg=true then !decide (d=e) else decide (d=e))) else none
    | none=>none)
  | none=>none
theorem si_eq [Tabs] {neg:Bool} (ha:SemB K ta a) (hb:SemB K tb b):SemI K (tOp (rEqD K neg) ta tb) (dEq neg a b):=fun {B Z os ρ σ H Q d} f q k=>by
  unfold dEq at q
  split at q
  · rename_i x e1
    split at q
    · rename_i y e2
      by_cases c:cmpb 20 x y=true
      · rw [if_pos c] at q
        cases q
        exact ha f e1 fun v H1 s1 i1=>hb (f.grow s1) e2 fun u H2 s2 i2=>⟨x,y,i1.same s2,i2,c,k _ _ (s1.trans s2) (.bl _)⟩
      · rw [if_neg c] at q; cases q
    · cases q
  · cases q
end
end
end VL
namespace L2
open PySem PySem.Spec PyProof.Rows
section
variable {X:Cx}
noncomputable def gSeq (K:PySem.W.Frag) (n:Nat) (t:TGs):TG:=fun v σ H Q=>gTup K n t v σ H Q∨gLst K n t v σ H Q
theorem pg_seq {es:List Expr} {k:Nat} {t:TGs} {n:Nat} {pos:Pos} (hc:X.calm=true) (h:PGs X es t)
    (hn:(assignEach es X.env).length=n:=by rfl) (hst:(assignEach es X.env).findIdx? (·.1)=none:=by rfl):PG X (.Tuple es k pos) (gSeq X.K n t):=by
  intro pins s σ H v u Q I r hw
  rcases hw with hw | hw
  · exact pg_tup hc h hn hst pins s σ H v u Q I r hw
  · exact pg_lst hc h hn hst pins s σ H v u Q I r hw
theorem pg_seqK {K:PySem.W.Frag} {es:List Expr} {k:Nat} {t:TGs} {n:Nat} {pos:Pos} (hK:X.K=K) (hc:X.calm=true) (h:PGs X es t)
    (hn:(assignEach es X.env).length=n:=by rfl) (hst:(assignEach es X.env).findIdx? (·.1)=none:=by rfl):PG X (.Tuple es k pos) (gSeq K n t):=by
  subst hK
  exact pg_seq hc h hn hst
end
end L2
namespace VL
open PySem L2
open Classical
noncomputable section
variable [Tabs] {K:PySem.W.Frag}
noncomputable def dVarO (i:Nat):DE:=fun ρ=>match ρ.getD i .un with
  | .bo d=>some d
  | _=>none
def ER (K:PySem.W.Frag) (m:Bool) (Bx H:Hp) (T:Addr→Prop) (x:V) (d:D):Prop:=match m with
  | true=>Is K H T x d
  | false=>Is K Bx No x d
structure Walk (K:PySem.W.Frag) (m:Bool) (Bx:Hp) (J:It) (H1:Hp) (T:Addr→Prop) (ds:List D):Prop where
  len:ds.length≤sizeLine
  go:∀ (i:Nat) (d:D) (H2:Hp) (T2:Addr→Prop),Kp T H1 T2 H2→Same Bx H2→(∀ a,T2 a→∃ o,H2 a=some o)→ds[i]?=some d→J.go i H2∧∀ x H3,J.yld i H2 x H3→Same H2 H3∧ER K m Bx H3 T2 x d
  stop:∀ (i:Nat) (H2:Hp) (T2:Addr→Prop),Kp T H1 T2 H2→Same Bx H2→ds.length=i→J.stop i H2
def SemW (K:PySem.W.Frag) (m:Bool) (wi:TI) (e:Rho→Option (List D)):Prop:=∀ {B:Hp} {Z:Addr→Prop} {os:Own} {ρ:Rho} {σ:L2.St} {H:Hp} {R:It→Hp→Prop} {ds:List D},Fr K B Z os ρ σ H→e ρ=some ds→(∀ J H1,Same H H1→Walk K m B J H1 (tot Z os) ds→R J H1)→wi σ H R
def SemWC (K:PySem.W.Frag) (m:Bool) (wi:TI) (e:Rho→Option (List D)):Prop:=∀ {B:Hp} {Z:Addr→Prop} {os:Own} {ρ:Rho} {σ:L2.St} {H:Hp} {R:It→Hp→Prop} {ds:List D},Fr K B Z os ρ σ H→e ρ=some ds→(∀ J H1,Same H H1→Walk K m H1 J H1 (tot Z os) ds→R J H1)→wi σ H R
theorem SemW.c {wi:TI} {e:Rho→Option (List D)} (h:SemW K true wi e):SemWC K true wi e:=fun f q k=>h f q fun J H1 s w=>k J H1 s ⟨w.len,fun i d H2 T2 kp sm hd e=>w.go i d H2 T2 kp ((f.keep.trans s).trans sm) hd e,fun i H2 T2 kp sm hl=>w.stop i H2 T2 kp ((f.keep.trans s).trans sm) hl⟩
theorem Rd.same {H H':Hp} {a:Addr} {u:HO} (h:Rd H a u) (s:Same H H'):Rd H' a u:=by
  rcases h with h | ⟨o,h⟩
  · exact .inl (s _ _ h)
  · exact .inr ⟨o,s _ _ h⟩
theorem walk_list {m:Bool} {Bx H1:Hp} {T:Addr→Prop} {p:Addr} {vs:List V} {ds:List D} (hl:ds.length≤sizeLine) (hd0:∀ H2 T2,Kp T H1 T2 H2→Same Bx H2→SqL K H2 p vs) (hn:vs.length=ds.length)
    (hi:∀ H2 T2 (i:Nat) v d,Kp T H1 T2 H2→Same Bx H2→vs[i]?=some v→ds[i]?=some d→ER K m Bx H2 T2 v d):Walk K m Bx (Itl K p) H1 T ds:=by
  refine ⟨hl,fun i d H2 T2 kp sb hd e=>?_,fun i H2 T2 kp sb hi=>⟨vs,hd0 H2 T2 kp sb,by omega⟩⟩
  have hr2:=hd0 H2 T2 kp sb
  have hi':i<vs.length:=by rw [hn]; exact (List.getElem?_eq_some_iff.mp e).1
  have e1:vs[i]?=some vs[i]:=List.getElem?_eq_getElem hi'
  refine ⟨⟨vs,_,hr2,e1⟩,fun x H3 ⟨e3,hx⟩=>?_⟩
  subst e3
  have:=hx vs hr2
  rw [e1] at this
  cases this
  exact ⟨Same.refl _,hi _ T2 i _ d kp sb e1 e⟩
theorem sw_list {tl:TE} {a:DE} (ha:SemI K tl a):SemW K true (iList K tl) (asL a):=fun {B Z os ρ σ H R ds} f q k=>by
  obtain ⟨d,q,ed⟩:=asL_some q
  refine ha f q fun v H1 s1 i1=>?_
  obtain ⟨p,vs,rfl,hl,hn,hr⟩:=i1.seq ed
  refine ⟨p,rfl,⟨vs,(hr H1 _ Kp.refl).1⟩,k _ _ s1 (walk_list (vs:=vs) (by omega) (fun H2 T2 kp _=>(hr H2 T2 kp).1) hn fun H2 T2 i v d kp _ e1 e2=>?_)⟩
  obtain ⟨v',f1,i2⟩:=(hr H2 T2 kp).2.get e2
  rw [e1] at f1
  cases f1
  exact i2
theorem swc_listB {tl:TE} {a:DE} (ha:SemB K tl a):SemWC K false (iList K tl) (asL a):=fun {B Z os ρ σ H R ds} f q k=>by
  obtain ⟨d,q,ed⟩:=asL_some q
  refine ha f q fun v H1 s1 i1=>?_
  obtain ⟨p,vs,rfl,hl,hn,hr⟩:=i1.seq ed
  refine ⟨p,rfl,⟨vs,(hr H1 _ Kp.refl).1⟩,k _ _ s1 (walk_list (vs:=vs) (by omega) (fun H2 T2 kp sb=>(hr H2 No (Kp.same sb)).1) hn fun H2 T2 i v d kp sb e1 e2=>?_)⟩
  obtain ⟨v',f1,i2⟩:=(hr H1 No Kp.refl).2.get e2
  rw [e1] at f1
  cases f1
  exact i2
def upL (lo:Int) (n:Nat):List D:=(List.range n).map fun (i:Nat)=>.int (lo+(i:Int))
theorem upL_len {lo:Int} {n:Nat}:(upL lo n).length=n:=by unfold upL; rw [List.length_map,List.length_range]
theorem upL_get {lo:Int} {n i:Nat} {d:D} (h:(upL lo n)[i]?=some d):i<n∧d=.int (lo+i):=by
  unfold upL at h
  rw [List.getElem?_map] at h
  by_cases hi:i<n
  · rw [List.getElem?_range hi] at h; cases h; exact ⟨hi,rfl⟩
  · rw [List.getElem?_eq_none (by rw [List.length_range]; omega)] at h; cases h
theorem walk_range {m:Bool} {Bx H1:Hp} {T:Addr→Prop} {lo:Int} {n:Nat} (hn:n≤sizeLine):Walk K m Bx (Itr lo n) H1 T (upL lo n):=by
  refine ⟨by rw [upL_len]; exact hn,fun i d H2 T2 kp _ hd e=>?_,fun i H2 T2 kp _ hi=>by rw [upL_len] at hi; exact Nat.le_of_eq hi⟩
  obtain ⟨hi,rfl⟩:=upL_get e
  refine ⟨hi,fun x H3 ⟨e3,ex⟩=>?_⟩
  subst e3 ex
  cases m
  · exact ⟨Same.refl _,.int _⟩
  · exact ⟨Same.refl _,.int _⟩
noncomputable def dRg1 (a:DE):Rho→Option (List D):=fun ρ=>match a ρ with
  | some (.int j)=>if -(2 ^ 62)≤j∧j.toNat≤sizeLine then some (upL 0 j.toNat) else none
  | _=>none
noncomputable def dRg2 (a b:DE):Rho→Option (List D):=fun ρ=>match a ρ with
  | some (.int i)=>(match b ρ with
    | some (.int j)=>if -(2 ^ 62)≤i∧i<2 ^ 62∧-(2 ^ 62)≤j∧j<2 ^ 62∧(j-i).toNat≤sizeLine then some (upL i (j-i).toNat) else none
    | _=>none)
  | _=>none
theorem sw_range1 {ta:TE} {a:DE} (ha:SemB K ta a):SemW K true (iRng1 (tCons ta tNil)) (dRg1 a):=fun {B Z os ρ σ H R ds} f q k=>by
  unfold dRg1 at q
  split at q
  · rename_i j e
    by_cases c:-(2 ^ 62)≤j∧j.toNat≤sizeLine
    · rw [if_pos c] at q
      cases q
      have hs:sizeLine=16777216:=sizeLine_eq
      exact ha f e fun v H1 s1 i1=>⟨j,by rw [i1.isInt],c.1,by omega,k _ _ s1 (walk_range c.2)⟩
    · rw [if_neg c] at q; cases q
  · cases q
theorem sw_range2 {ta tb:TE} {a b:DE} (ha:SemB K ta a) (hb:SemB K tb b):SemW K true (iRng2 (tCons ta (tCons tb tNil))) (dRg2 a b):=fun {B Z os ρ σ H R ds} f q k=>by
  unfold dRg2 at q
  split at q
  · rename_i i e
    split at q
    · rename_i j e2
      by_cases c:-(2 ^ 62)≤i∧i<2 ^ 62∧-(2 ^ 62)≤j∧j<2 ^ 62∧(j-i).toNat≤sizeLine
      · rw [if_pos c] at q
        cases q
        exact ha f e fun v H1 s1 i1=>hb (f.grow s1) e2 fun u H2 s2 i2=>⟨i,j,by rw [i1.isInt,i2.isInt],⟨c.1,c.2.1,c.2.2.1,c.2.2.2.1⟩,k _ _ (s1.trans s2) (walk_range c.2.2.2.2)⟩
      · rw [if_neg c] at q; cases q
    · cases q
  · cases q
def enL (ds:List D):List D:=ds.mapIdx fun i d=>.tup [.int i,d]
theorem enL_get {ds:List D} {i:Nat} {d:D} (h:(enL ds)[i]?=some d):∃ e,ds[i]?=some e∧d=.tup [.int i,e]:=by
  unfold enL at h
  rw [List.getElem?_mapIdx] at h
  cases e:ds[i]? with
  | none=>rw [e] at h; cases h
  | some x=>rw [e] at h; cases h; exact ⟨x,rfl,rfl⟩
noncomputable def dEn (a:DE):Rho→Option (List D):=fun ρ=>match asL a ρ with
  | some ds=>some (enL ds)
  | none=>none
theorem walk_enum {Bx H1:Hp} {T:Addr→Prop} {p:Addr} {vs:List V} {ds:List D} (hl:ds.length≤sizeLine) (hd0:∀ H2 T2,Kp T H1 T2 H2→Same Bx H2→SqL K H2 p vs∧IsL K H2 T2 vs ds):Walk K true Bx (Ite K p) H1 T (enL ds):=by
  have hlen:(enL ds).length=ds.length:=by unfold enL; rw [List.length_mapIdx]
  refine ⟨by rw [hlen]; exact hl,fun i d H2 T2 kp sb hd e=>?_,fun i H2 T2 kp sb hi=>?_⟩
  · obtain ⟨x,ex,rfl⟩:=enL_get e
    obtain ⟨hr2,r2⟩:=hd0 H2 T2 kp sb
    obtain ⟨v,e1,i2⟩:=r2.get ex
    refine ⟨⟨vs,v,hr2,e1⟩,fun y H3 hy=>?_⟩
    obtain ⟨t,w,ey,nt,hw,e3⟩:=hy
    subst e3 ey
    have:=hw vs hr2
    rw [e1] at this
    cases this
    refine ⟨same_new nt,show Is K _ T2 (.ref t) (.tup [.int i,x]) from .tup (fun z=>?_) upd_same (by show 2≤sizeLine; decide) ((IsL.cons (.int _) (.one i2)).same (same_new nt))⟩
    obtain ⟨o,q⟩:=hd t z
    rw [nt] at q; cases q
  · obtain ⟨hr2,r2⟩:=hd0 H2 T2 kp sb
    exact ⟨vs,hr2,by rw [r2.length,← hlen]; exact Nat.le_of_eq hi⟩
theorem dEn_some {a:DE} {ρ:Rho} {ds:List D} (h:dEn a ρ=some ds):∃ es,asL a ρ=some es∧ds=enL es:=by
  unfold dEn at h
  split at h
  · rename_i es e; exact ⟨es,e,(Option.some.inj h).symm⟩
  · cases h
theorem sw_enum {tl:TE} {a:DE} (ha:SemI K tl a):SemW K true (iEnum K tl) (dEn a):=fun {B Z os ρ σ H R ds} f q k=>by
  obtain ⟨es,e,rfl⟩:=dEn_some q
  obtain ⟨d,e,ed⟩:=asL_some e
  refine ha f e fun v H1 s1 i1=>?_
  obtain ⟨p,vs,rfl,hl,hn,hr⟩:=i1.seq ed
  exact ⟨p,rfl,⟨vs,(hr H1 _ Kp.refl).1⟩,k _ _ s1 (walk_enum (by omega) fun H2 T2 kp _=>hr H2 T2 kp)⟩
abbrev DG:=D→Rho→Option Rho
abbrev DGs:=List D→Rho→Option Rho
def SemG (K:PySem.W.Frag) (m:Bool) (g:TG) (e:DG):Prop:=∀ {B:Hp} {Z:Addr→Prop} {os:Own} {ρ:Rho} {σ:L2.St} {H:Hp} {Q:L2.St→Hp→Prop} {v:V} {d:D} {ρ':Rho},Fr K B Z os ρ σ H→ER K m B H (tot Z os) v d→e d ρ=some ρ' →
  (∀ os' σ',Fr K B Z os' ρ' σ' H→Kp (tot Z os) H (tot Z os') H→Q σ' H)→g v σ H Q
def ERL (K:PySem.W.Frag) (m:Bool) (Bx H:Hp) (T:Addr→Prop) (vs:List V) (ds:List D):Prop:=match m with
  | true=>IsL K H T vs ds
  | false=>IsL K Bx No vs ds
def SemGs (K:PySem.W.Frag) (m:Bool) (g:TGs) (e:DGs):Prop:=∀ {B:Hp} {Z:Addr→Prop} {os:Own} {ρ:Rho} {σ:L2.St} {H:Hp} {Q:L2.St→Hp→Prop} {vs:List V} {ds:List D} {ρ':Rho},Fr K B Z os ρ σ H→ERL K m B H (tot Z os) vs ds→e ds ρ=some ρ' →
  (∀ os' σ',Fr K B Z os' ρ' σ' H→Kp (tot Z os) H (tot Z os') H→Q σ' H)→g vs σ H Q
def slm (m:Bool) (d:D):Sl:=match m with
  | true=>.pu d
  | false=>.bo d
noncomputable def gN (m:Bool) (i:Nat):DG:=fun d ρ=>some (ρ.set i (slm m d))
theorem Fr.putm {B H:Hp} {Z:Addr→Prop} {os:Own} {ρ:Rho} {σ:L2.St} (f:Fr K B Z os ρ σ H) {m:Bool} (i:Nat) {v:V} {d:D} (h:ER K m B H (tot Z os) v d) :
    ∃ os',Fr K B Z os' (ρ.set i (slm m d)) (σ.set i (some v)) H∧Kp (tot Z os) H (tot Z os') H:=by
  by_cases hi:i < ρ.length
  · cases m with
    | true=>exact ⟨_,f.put hi h⟩
    | false=>exact ⟨_,f.step (s:=.bo d) (v:=some v) hi (fun a u e _=>e) (fun a ha=>let ⟨xs,e⟩:=(f.sl i).dom ha; ⟨_,e⟩) List.nodup_nil (fun a h=>by cases h) ⟨rfl,v,rfl,h⟩⟩
  · have e1:ρ.set i (slm m d)=ρ:=List.set_eq_of_length_le (by omega)
    have e2:σ.set i (some v)=σ:=List.set_eq_of_length_le (by rw [f.len]; omega)
    rw [e1,e2]
    exact ⟨os,f,Kp.refl⟩
theorem sg_name {m:Bool} (i:Nat):SemG K m (gName i) (gN m i):=fun {B Z os ρ σ H Q v d ρ'} f h q k=>by
  cases q
  obtain ⟨os',f',kp⟩:=f.putm i h
  exact k os' _ f' kp
def gsNil:DGs:=fun ds ρ=>match ds with
  | []=>some ρ
  | _=>none
def gsCons (e:DG) (r:DGs):DGs:=fun ds ρ=>match ds with
  | d::t=>(match e d ρ with
    | some ρ'=>r t ρ'
    | none=>none)
  | []=>none
theorem sgs_nil {m:Bool}:SemGs K m gNil gsNil:=fun {B Z os ρ σ H Q vs ds ρ'} f h q k=>by
  cases ds with
  | nil =>
    cases q
    have e:vs=[]:=by cases m <;> cases h <;> rfl
    exact ⟨e,k os σ f Kp.refl⟩
  | cons d t=>cases q
theorem sgs_cons {m:Bool} {g:TG} {u:TGs} {e:DG} {r:DGs} (hg:SemG K m g e) (hr:SemGs K m u r):SemGs K m (gCons g u) (gsCons e r):=fun {B Z os ρ σ H Q vs ds ρ'} f h q k=>by
  cases ds with
  | nil=>cases q
  | cons d t =>
    have q:(match e d ρ with | some ρ'=>r t ρ' | none=>none)=some ρ':=q
    split at q
    · rename_i ρ1 e1
      obtain ⟨v,vt,rfl,h1,h2⟩:∃ v vt,vs=v::vt∧ER K m B H (tot Z os) v d∧ERL K m B H (tot Z os) vt t:=by
        cases m with
        | true=>cases h with | cons a b=>exact ⟨_,_,rfl,a,b⟩
        | false=>cases h with | cons a b=>exact ⟨_,_,rfl,a,b⟩
      refine ⟨v,vt,rfl,hg f h1 e1 fun os1 σ1 f1 k1=>hr f1 ?_ q fun os2 σ2 f2 k2=>k os2 σ2 f2 (k1.trans k2)⟩
      cases m with
      | true=>exact IsL.kp k1 h2
      | false=>exact h2
    · cases q
noncomputable def gUn (n:Nat) (r:DGs):DG:=fun d ρ=>match d with
  | .tup ds=>if ds.length=n then r ds ρ else none
  | .lst ds=>if ds.length=n then r ds ρ else none
  | _=>none
theorem sg_un {m:Bool} {n:Nat} {u:TGs} {r:DGs} (hr:SemGs K m u r):SemG K m (gSeq K n u) (gUn n r):=fun {B Z os ρ σ H Q v d ρ'} f h q k=>by
  cases d with
  | tup ds =>
    have q:(if ds.length=n then r ds ρ else none)=some ρ':=q
    by_cases c:ds.length=n
    · rw [if_pos c] at q
      cases m with
      | true =>
        obtain ⟨p,vs,rfl,hz,hr',hl,g⟩:=Is.isTup h
        exact .inl ⟨p,vs,rfl,.inl (.inl hr'),by rw [g.length]; exact c,hr f g q k⟩
      | false =>
        obtain ⟨p,vs,rfl,hz,hr',hl,g⟩:=Is.isTup h
        exact .inl ⟨p,vs,rfl,.inl (.inl (f.keep _ _ hr')),by rw [g.length]; exact c,hr f g q k⟩
    · rw [if_neg c] at q; cases q
  | lst ds =>
    have q:(if ds.length=n then r ds ρ else none)=some ρ':=q
    by_cases c:ds.length=n
    · rw [if_pos c] at q
      cases m with
      | true =>
        obtain ⟨p,vs,rfl,hz,hr',hl,g⟩:=Is.isLst h
        exact .inr ⟨p,vs,rfl,.inl hr',by rw [g.length]; exact c,hr f g q k⟩
      | false =>
        obtain ⟨p,vs,rfl,hz,hr',hl,g⟩:=Is.isLst h
        exact .inr ⟨p,vs,rfl,.inl (Rd.same hr' f.keep),by rw [g.length]; exact c,hr f g q k⟩
    · rw [if_neg c] at q; cases q
  | _=>cases q
theorem Fr.tin {B H:Hp} {Z:Addr→Prop} {os:Own} {ρ:Rho} {σ:L2.St} (f:Fr K B Z os ρ σ H):∀ a,tot Z os a→∃ o,H a=some o:=by
  rintro a (z | ⟨i,z⟩)
  · exact f.zin a z
  · obtain ⟨xs,e⟩:=(f.sl i).dom z
    exact ⟨_,e⟩
theorem Fr.zt {B H:Hp} {Z:Addr→Prop} {os:Own} {ρ:Rho} {σ:L2.St} (f:Fr K B Z os ρ σ H):ZT (tot Z os) H:=⟨f.tin,f.tabH⟩
def view:Sl→Sl
  | .pu d=>.pu d
  | .bo d=>.bo d
  | .ol ds=>.bo (.lst ds)
  | .om rows=>.bo (.lst (rows.map D.lst))
  | .od kvs=>.bo (.dct kvs)
  | .pm _ _ rows=>.bo (.lst (rows.map D.lst))
  | .pd _ kvs=>.bo (.dct kvs)
  | .un=>.un
def r0 (k:Nat) (cs:List Nat) (ρ:Rho):Rho:=List.replicate k .un++cs.map fun i=>view (ρ.getD i .un)
def s0 (k:Nat) (cs:List Nat) (σ:L2.St):L2.St:=List.replicate k none++cs.map fun i=>(σ[i]?).join
theorem blockFr {B H1 H:Hp} {Z:Addr→Prop} {os:Own} {ρ:Rho} {σ:L2.St} {Dl:Addr} {o:HO} (f:Fr K B Z os ρ σ H1) (hD:H1 Dl=none) (s:Same H1 H) (hd:H Dl=some o) (k:Nat) (cs:List Nat) :
    Fr K H1 (fun a=>a=Dl∨tot Z os a) (fun _=>[]) (r0 k cs ρ) (s0 k cs σ) H where
  keep:=s
  zin:=fun a z=>by
    rcases z with rfl | z
    · exact ⟨o,hd⟩
    · obtain ⟨u,e⟩:=f.tin a z
      exact ⟨u,s _ _ e⟩
  len:=by unfold r0 s0; simp
  nd:=fun _=>List.nodup_nil
  dj:=fun _ _ _ h=>by cases h
  tab:=f.tabH
  new:=fun _ _ h=>by cases h
  sl:=fun j=>by
    have kp:Kp (tot Z os) H1 (tot (fun a=>a=Dl∨tot Z os a) fun _=>[]) H:=fun a u e z=>by
      refine ⟨s _ _ e,?_⟩
      rintro ((rfl | q) | ⟨_,q⟩)
      · rw [hD] at e; cases e
      · exact z q
      · cases q
    unfold r0 s0
    rw [List.getD_eq_getElem?_getD]
    by_cases hj:j<k
    · rw [List.getElem?_append_left (by simpa using hj),List.getElem?_append_left (by simpa using hj),List.getElem?_replicate,if_pos hj]
      exact rfl
    · rw [List.getElem?_append_right (by simpa using hj),List.getElem?_append_right (by simpa using hj),List.length_replicate,List.length_replicate,List.getElem?_map,List.getElem?_map]
      cases e:cs[j-k]? with
      | none=>exact rfl
      | some i =>
        have h:=f.sl i
        show SlOk K _ _ _ _ (view (ρ.getD i .un)) ((σ[i]?).join)
        cases e2:ρ.getD i .un with
        | un=>exact rfl
        | pu d =>
          rw [e2] at h
          obtain ⟨_,u,hu,i1⟩:=h
          exact ⟨rfl,u,hu,i1.kp kp⟩
        | bo d =>
          rw [e2] at h
          obtain ⟨_,u,hu,i1⟩:=h
          exact ⟨rfl,u,hu,i1.same f.keep⟩
        | ol ds =>
          rw [e2] at h
          obtain ⟨a,vs,_,hu,hH,hl,i1⟩:=h
          exact ⟨rfl,_,hu,.lst (fun z=>z) (.inl hH) hl i1.all⟩
        | om rows =>
          rw [e2] at h
          obtain ⟨a,ps,_,hu,hH,hl,i1⟩:=h
          exact ⟨rfl,_,hu,.lst (fun z=>z) (.inl hH) (by rw [List.length_map]; exact hl) (rows_is i1)⟩
        | od kvs =>
          rw [e2] at h
          obtain ⟨a,_,hu,hH,hl⟩:=h
          exact ⟨rfl,_,hu,.dct (fun z=>z) (.inl hH) hl⟩
        | pm a ps rows =>
          rw [e2] at h
          obtain ⟨_,hu,hH,hl,i1⟩:=h
          exact ⟨rfl,_,hu,.lst (fun z=>z) (.inl hH) (by rw [List.length_map]; exact hl) (rows_is i1)⟩
        | pd a kvs =>
          rw [e2] at h
          obtain ⟨_,hu,hH,hl⟩:=h
          exact ⟨rfl,_,hu,.dct (fun z=>z) (.inl hH) hl⟩
def compGo (g:DG) (t:Rho→Option Bool) (e:DE) (ρ0:Rho):List D→Option (List D)
  | []=>some []
  | d::ds=>match g d ρ0 with
    | none=>none
    | some ρ1=>match t ρ1 with
      | none=>none
      | some false=>compGo g t e ρ0 ds
      | some true=>match e ρ1 with
        | none=>none
        | some y=>match compGo g t e ρ0 ds with
          | none=>none
          | some ys=>some (y::ys)
noncomputable def dComp (k:Nat) (cs:List Nat) (it:Rho→Option (List D)) (g:DG) (t:Rho→Option Bool) (e:DE):Rho→Option (List D):=fun ρ=>match it ρ with
  | some ds=>compGo g t e (r0 k cs ρ) ds
  | none=>none
theorem sf_comp {m:Bool} {k:Nat} {cs:List Nat} {wi:TI} {g:TG} {tt:TT} {te:TE} {it:Rho→Option (List D)} {gd:DG} {td:Rho→Option Bool} {ed:DE} (hw:SemWC K m wi it) (hg:SemG K m g gd) (ht:SemT K tt td) (he:SemI K te ed) :
    SemF K (tComp wi g tt te (s0 k cs)) (dComp k cs it gd td ed):=fun {B Z os ρ σ H Q ds} f q kk=>by
  unfold dComp at q
  split at q
  · rename_i xs e0
    refine hw f e0 fun J H1 s1 W Dl hD=>?_
    have f1:=f.grow s1
    have sD:∀ {H2:Hp} {ys:List V},Same H1 H2→Same H1 (upd H2 Dl (.lst ys)):=fun {H2 ys} s a o e=>by
      rw [upd_ne (ne_of_none e hD)]; exact s _ _ e
    refine ⟨fun i m ys H2=>m=xs.length-i∧i≤xs.length∧Same H1 H2∧H2 Dl=some (.lst ys)∧ys.length≤i∧∃ done rest,IsL K H2 (fun a=>a=Dl∨tot Z os a) ys done∧compGo gd td ed (r0 k cs ρ) (xs.drop i)=some rest∧done++rest=ds,
      ⟨_,rfl,Nat.zero_le _,sD (Same.refl _),upd_same,Nat.le_refl _,[],ds,.nil,q,rfl⟩,?_⟩
    rintro i mm ys H2 ⟨rfl,hi,s2,eD,hly,done,rest,il,q2,ed2⟩
    have kp12:Kp (tot Z os) H1 (fun a=>a=Dl∨tot Z os a) H2:=fun a u e z=>⟨s2 _ _ e,fun w=>w.elim (ne_of_none e hD) z⟩
    by_cases hlt:i<xs.length
    · have ex:xs[i]?=some xs[i]:=List.getElem?_eq_getElem hlt
      have ef:=blockFr f1 hD s2 eD k cs
      obtain ⟨go,yl⟩:=W.go i xs[i] H2 _ kp12 s2 (fun a z=>ef.zin a z) ex
      refine .inr ⟨go,fun x H3 hy=>?_⟩
      obtain ⟨s3,er⟩:=yl x H3 hy
      have eD3:=s3 _ _ eD
      have s13:=s2.trans s3
      have ef3:=blockFr f1 hD s13 eD3 k cs
      rw [List.drop_eq_getElem_cons hlt] at q2
      unfold compGo at q2
      have er':ER K m H1 H3 (tot (fun a=>a=Dl∨tot Z os a) fun _=>[]) x xs[i]:=by
        cases m with
        | false=>exact er
        | true=>exact Is.kp (Kp.less fun a z=>z.elim id fun ⟨_,w⟩=>by cases w) er
      split at q2
      · cases q2
      · rename_i ρ1 e1
        refine hg ef3 er' e1 fun os1 σ1 fr1 k1=>?_
        split at q2
        · cases q2
        · rename_i e2
          refine ht fr1 e2 fun H4 s4=>iteF ⟨_,by omega,rfl,hlt,s13.trans s4,s4 _ _ eD3,by omega,done,rest,(il.same s3).same s4,q2,ed2⟩
        · rename_i e2
          refine ht fr1 e2 fun H4 s4=>iteT ?_
          split at q2
          · cases q2
          · rename_i y e3
            split at q2
            · cases q2
            · rename_i rs e4
              cases q2
              refine he (fr1.grow s4) e3 fun v H5 s5 i5=>?_
              have s35:=s4.trans s5
              have eD5:=s35 _ _ eD3
              have hl:=W.len
              have kp5:∀ (zs:List V),Kp (fun a=>a=Dl∨tot Z os a) H5 (fun a=>a=Dl∨tot Z os a) (upd H5 Dl (.lst zs)):=fun zs a u e z=>⟨by rw [upd_ne (fun w=>z (.inl w))]; exact e,z⟩
              have i5':Is K H5 (fun a=>a=Dl∨tot Z os a) v y:=i5.kp (Kp.less fun a z=>.inl z)
              refine ⟨eD5,by omega,_,by omega,rfl,hlt,sD (s13.trans s35),upd_same,by rw [List.length_append,List.length_singleton]; omega,done++[y],rs,?_,e4,by rw [List.append_assoc]; exact ed2⟩
              exact ((il.same s3).same s35 |>.kp (kp5 _)).append (.one (i5'.kp (kp5 _)))
    · have e:i=xs.length:=by omega
      subst e
      rw [List.drop_length] at q2
      cases q2
      rw [List.append_nil] at ed2
      subst ed2
      have hl:=W.len
      exact .inl ⟨W.stop _ H2 _ kp12 s2 rfl,eD,kk Dl ys H2 (s1.trans s2) (Same.free s1 hD) eD (by omega) il⟩
  · cases q
inductive Fm where
  | v | l | m | x (E:XK) (C:Addr)
def RtOk (fr:Fm) (K:PySem.W.Frag) (B H:Hp) (Z:Addr→Prop) (v:V) (d:D):Prop:=match fr with
  | .v=>Is K H Z v d
  | .l=>(∃ p vs ds,v=.ref p∧d=.lst ds∧B p=none∧H p=some (.lst vs)∧vs.length≤sizeLine∧IsL K H (fun a=>a=p∨Z a) vs ds)∨∃ p kvs,v=.ref p∧d=.dct kvs∧B p=none∧H p=some (.dK (kvs.map dkv))∧kvs.length≤sizeLine
  | .m=>∃ p ps rows,v=.ref p∧d=.lst (rows.map D.lst)∧B p=none∧(∀ a∈ps,B a=none)∧(p::ps).Nodup∧H p=some (.lst (ps.map V.ref))∧ps.length≤sizeLine∧Paired (fun q ds=>∃ vs,H q=some (.lst vs)∧vs.length≤sizeLine∧IsL K H (fun a=>(a=p∨a∈ps)∨Z a) vs ds) ps rows
  | .x _ _=>Is K H Z v d
theorem rows_isZ {H:Hp} {Z T:Addr→Prop} (hT:∀ a,Z a→T a):∀ {ps:List Addr} {rows:List (List D)},(∀ p∈ps,¬ Z p)→Paired (fun p ds=>∃ vs,H p=some (.lst vs)∧vs.length≤sizeLine∧IsL K H T vs ds) ps rows→IsL K H Z (ps.map V.ref) (rows.map D.lst)
  | _,_,_,.nil=>.nil
  | _,_,hz,.cons ⟨vs,h,hl,r⟩ t=>.cons (.lst (hz _ List.mem_cons_self) (.inl h) hl (r.kp (Kp.less hT))) (rows_isZ hT (fun p hp=>hz p (List.mem_cons_of_mem _ hp)) t)
theorem RtOk.is {fr:Fm} {B H:Hp} {Z:Addr→Prop} {v:V} {d:D} (hz:∀ a,Z a→∃ o,B a=some o) (h:RtOk fr K B H Z v d):Is K H Z v d:=by
  have nz:∀ {p:Addr},B p=none→¬ Z p:=fun {p} e z=>by obtain ⟨o,q⟩:=hz p z; rw [e] at q; cases q
  cases fr with
  | v=>exact h
  | x E C=>exact h
  | l =>
    rcases h with ⟨p,vs,ds,rfl,rfl,hb,hh,hl,r⟩ | ⟨p,kvs,rfl,rfl,hb,hh,hl⟩
    · exact .lst (nz hb) (.inl hh) hl (r.kp (Kp.less fun a z=>.inr z))
    · exact .dct (nz hb) (.inl hh) hl
  | m =>
    obtain ⟨p,ps,rows,rfl,rfl,hb,hbs,_,hh,hl,r⟩:=h
    exact .lst (nz hb) (.inl hh) (by rw [List.length_map]; exact hl) (rows_isZ (fun a z=>.inr z) (fun q hq=>nz (hbs q hq)) r)
def spD (fr:Fm) (K:PySem.W.Frag) (ms:List Bool) (F:List D→Option D):Sp:=fun vs H Q _=>∃ (Z:Addr→Prop) (ds:List D) (d:D),ZT Z H∧Args K H Z ms vs ds∧F ds=some d∧∀ v H',Same H H'→RtOk fr K H H' Z v d→Q v H'
noncomputable def dCall (F:List D→Option D) (es:Rho→Option (List D)):DE:=fun ρ=>match es ρ with
  | some ds=>F ds
  | none=>none
theorem si_call {fr:Fm} {ms:List Bool} {F:List D→Option D} {t:TA} {es:Rho→Option (List D)} {E:XK} (ha:SemA K ms t es):SemI K (tCall (spD fr K ms F) [] E t) (dCall F es):=fun {B Z os ρ σ H Q d} f q k=>by
  unfold dCall at q
  split at q
  · rename_i ds e
    refine ha f e fun vs H1 s1 a=>?_
    show spD fr K ms F (vs++[]) H1 Q E
    rw [List.append_nil]
    exact ⟨tot Z os,ds,d,(f.grow s1).zt,a,q,fun v H2 s2 i=>k v H2 (s1.trans s2) (i.is (f.grow s1).tin)⟩
  · cases q
end
end VL
namespace L2
open PySem PySem.Spec PyProof.Rows
section
variable {X:Cx}
theorem get_list:PGet X (rIxL X.K):=by
  intro pins s σ H x y v u Q I rx ry h
  obtain ⟨p,xs,i,z,rfl,rfl,hq,he,q⟩:=h
  cases rx
  obtain ⟨t,rfl⟩:=ry
  obtain ⟨its,r,pl,hz⟩:=I.list hq
  obtain ⟨j,h1,h2,h3,h4,h5⟩:=atI_get he
  obtain ⟨w,ew,rw'⟩:=r.get h2
  have hl:=r.length
  have hn:=line63
  have fin:EP X pins σ Q w s:=⟨z,H,I,rw',q⟩
  by_cases h0:0≤i
  · have hj:i.toNat=j:=by
      rw [seqIndex_of h0 h5] at h1
      exact Option.some.inj h1
    exact wpAny_getItem_list pl.isList h0 (by omega) (by rw [hj]; simpa using ew) fin
  · have hj:(i+(its.toArray.size:Int)).toNat=j:=by
      rw [seqIndex_neg (by omega) h4] at h1
      rw [List.size_toArray,← hl]
      exact Option.some.inj h1
    exact wpAny_getItem_list_neg pl.isList (by omega) (by rw [List.size_toArray] <;> omega) (by omega) (by rw [hj]; simpa using ew) fin
theorem get_listK {K:PySem.W.Frag} (h:X.K=K):PGet X (rIxL K):=by subst h; exact get_list
end
end L2
namespace VL
open PySem L2
open Classical
noncomputable section
variable [Tabs] {K:PySem.W.Frag}
inductive Res where
  | nx (ρ:Rho) | rt (d:D) | bk (ρ:Rho) | ct (ρ:Rho) | no
variable {fr:Fm}
abbrev DS:=Rho→Res
def Post (fr:Fm) (K:PySem.W.Frag) (B:Hp) (Z:Addr→Prop) (os:Own) (H:Hp) (E:Ends):Res→Prop
  | .nx ρ'=>∀ os' σ' H',Fr K B Z os' ρ' σ' H'→Kp (tot Z os) H (tot Z os') H'→E.nx σ' H'
  | .bk ρ'=>∀ os' σ' H',Fr K B Z os' ρ' σ' H'→Kp (tot Z os) H (tot Z os') H'→E.bk σ' H'
  | .ct ρ'=>∀ os' σ' H',Fr K B Z os' ρ' σ' H'→Kp (tot Z os) H (tot Z os') H'→E.ct σ' H'
  | .rt d=>match fr with
    | .x E0 C=>∀ H',Same B H'→E0 (.ref C) none H'
    | fr=>∀ v H',Same B H'→RtOk fr K B H' Z v d→E.rt v H'
  | .no=>False
def SemS (fr:Fm) (K:PySem.W.Frag) (t:TS) (s:DS):Prop:=∀ {B:Hp} {Z:Addr→Prop} {os:Own} {ρ:Rho} {σ:L2.St} {H:Hp} {E:Ends},Fr K B Z os ρ σ H→Post fr K B Z os H E (s ρ)→t E σ H
theorem Post.kp {B:Hp} {Z:Addr→Prop} {os os1:Own} {H H1:Hp} {E:Ends} {r:Res} (k:Kp (tot Z os) H (tot Z os1) H1) (p:Post fr K B Z os H E r):Post fr K B Z os1 H1 E r:=by
  cases r with
  | nx ρ'=>exact fun os' σ' H' f k'=>p os' σ' H' f (k.trans k')
  | bk ρ'=>exact fun os' σ' H' f k'=>p os' σ' H' f (k.trans k')
  | ct ρ'=>exact fun os' σ' H' f k'=>p os' σ' H' f (k.trans k')
  | rt d=>exact p
  | no=>exact p
@[irreducible] noncomputable def sPass:DS:=fun ρ=>.nx ρ
theorem ss_pass:SemS fr K tNext sPass:=fun f p=>by unfold sPass at p; exact p _ _ _ f Kp.refl
@[irreducible] noncomputable def sSeq (s u:DS):DS:=fun ρ=>match s ρ with
  | .nx ρ'=>u ρ'
  | r=>r
theorem ss_seq {t u:TS} {s w:DS} (h1:SemS fr K t s) (h2:SemS fr K u w):SemS fr K (tSeq t u) (sSeq s w):=fun {B Z os ρ σ H E} f p=>by
  refine h1 f ?_
  unfold sSeq at p
  cases e:s ρ with
  | nx ρ'=>rw [e] at p; exact fun os' σ' H' f' k=>h2 f' (p.kp k)
  | bk ρ'=>rw [e] at p; exact p
  | ct ρ'=>rw [e] at p; exact p
  | rt d=>rw [e] at p; exact p
  | no=>rw [e] at p; exact p
@[irreducible] noncomputable def sRet (a:DE):DS:=fun ρ=>match a ρ with
  | some d=>.rt d
  | none=>.no
theorem ss_ret {ta:TE} {a:DE} (h:SemI K ta a):SemS .v K (tRet ta) (sRet a):=fun {B Z os ρ σ H E} f p=>by
  unfold sRet at p
  cases e:a ρ with
  | none=>rw [e] at p; exact p.elim
  | some d=>rw [e] at p; exact h f e fun v H1 s1 i1=>p v H1 (f.keep.trans s1) (i1.kp (Kp.less fun a z=>.inl z))
@[irreducible] noncomputable def sIf (c:Rho→Option Bool) (s u:DS):DS:=fun ρ=>match c ρ with
  | some true=>s ρ
  | some false=>u ρ
  | none=>.no
theorem ss_if {tc:TT} {t u:TS} {c:Rho→Option Bool} {s w:DS} (hc:SemT K tc c) (h1:SemS fr K t s) (h2:SemS fr K u w):SemS fr K (tIfS tc t u) (sIf c s w):=fun {B Z os ρ σ H E} f p=>by
  unfold sIf at p
  split at p
  · rename_i e
    exact hc f e fun H1 s1=>iteT (h1 (f.grow s1) (p.kp (Kp.same s1)))
  · rename_i e
    exact hc f e fun H1 s1=>iteF (h2 (f.grow s1) (p.kp (Kp.same s1)))
  · exact p.elim
@[irreducible] noncomputable def sSet (i:Nat) (a:DE):DS:=fun ρ=>match a ρ with
  | some d=>.nx (ρ.set i (.pu d))
  | none=>.no
theorem ss_set {i:Nat} {ta:TE} {a:DE} (h:SemI K ta a):SemS fr K (tAsg ta (gName i)) (sSet i a):=fun {B Z os ρ σ H E} f p=>by
  unfold sSet at p
  cases e:a ρ with
  | none=>rw [e] at p; exact p.elim
  | some d =>
    rw [e] at p
    refine h f e fun v H1 s1 i1=>?_
    obtain ⟨os',f',k⟩:=(f.grow s1).putm (m:=true) i i1
    exact p os' _ _ f' ((Kp.same s1).trans k)
theorem ss_setC {i:Nat} {ta:TE} {a:DE} (h:SemI K ta a):SemS fr K (tSetC ta i) (sSet i a):=ss_set (i:=i) h
@[irreducible] noncomputable def sSetO (i:Nat) (a:Rho→Option (List D)):DS:=fun ρ=>match a ρ with
  | some ds=>if i < ρ.length then .nx (ρ.set i (.ol ds)) else .no
  | none=>.no
theorem ss_setO {i:Nat} {ta:TE} {a:Rho→Option (List D)} (h:SemF K ta a):SemS fr K (tAsg ta (gName i)) (sSetO i a):=fun {B Z os ρ σ H E} f p=>by
  unfold sSetO at p
  split at p
  · rename_i ds e
    by_cases hi:i < ρ.length
    · rw [if_pos hi] at p
      refine h f e fun x vs H1 s1 hx hx1 hl i1=>?_
      have st:=f.step (H':=H1) (i:=i) hi (o:=[x]) (s:=.ol ds) (v:=some (.ref x)) (fun a u e _=>s1 _ _ e) (fun a ha=>let ⟨xs,e⟩:=(f.sl i).dom ha; ⟨_,s1 _ _ e⟩) (by simp) (fun a ha=>by rw [List.mem_singleton.mp ha]; exact .inr hx)
        ⟨x,vs,rfl,rfl,hx1,hl,i1.kp (Kp.less fun a z=>?_)⟩
      · exact p _ _ _ st.1 st.2
      · rcases z with z | ⟨j,z⟩
        · exact .inr (.inl z)
        · by_cases hj:j=i
          · subst hj; rw [putO_same] at z; exact .inl (List.mem_singleton.mp z)
          · rw [putO_ne hj] at z; exact .inr (.inr ⟨j,z⟩)
    · rw [if_neg hi] at p; exact p.elim
  · exact p.elim
theorem ss_setOC {i:Nat} {ta:TE} {a:Rho→Option (List D)} (h:SemF K ta a):SemS fr K (tSetC ta i) (sSetO i a):=ss_setO (i:=i) h
def frz (i:Nat) (ρ:Rho):Rho:=match ρ.getD i .un with
  | .ol ds=>ρ.set i (.pu (.lst ds))
  | .om rows=>ρ.set i (.pu (.lst (rows.map D.lst)))
  | .od kvs=>ρ.set i (.pu (.dct kvs))
  | _=>ρ
theorem set_self {σ:L2.St} {i:Nat} {v:V} (h:(σ[i]?).join=some v):σ.set i (some v)=σ:=by
  have e:=join_some h
  refine List.ext_getElem? fun j=>?_
  by_cases hj:i=j
  · subst hj
    rw [List.getElem?_set_self (List.getElem?_eq_some_iff.mp e).1,e]
  · rw [List.getElem?_set_ne hj]
theorem getD_lt {ρ:Rho} {i:Nat} {s:Sl} (h:ρ.getD i .un=s) (hs:s≠.un):i < ρ.length:=by
  by_cases hi:i < ρ.length
  · exact hi
  · rw [List.getD_eq_getElem?_getD,List.getElem?_eq_none (by omega)] at h
    exact absurd h.symm hs
theorem Fr.freeze {B H:Hp} {Z:Addr→Prop} {os:Own} {ρ:Rho} {σ:L2.St} (f:Fr K B Z os ρ σ H) (i:Nat):∃ os',Fr K B Z os' (frz i ρ) σ H∧Kp (tot Z os) H (tot Z os') H:=by
  unfold frz
  have less:∀ a,tot Z (putO os i []) a→tot Z os a:=by
    rintro a (z | ⟨j,z⟩)
    · exact .inl z
    · by_cases hj:j=i
      · subst hj; rw [putO_same] at z; cases z
      · rw [putO_ne hj] at z; exact .inr ⟨j,z⟩
  cases e:ρ.getD i .un with
  | ol ds =>
    have s:=f.sl i
    rw [e] at s
    obtain ⟨a,vs,eo,hu,hH,hl,i1⟩:=s
    have hi:=getD_lt e (by intro z; cases z)
    have st:=f.step (H':=H) (i:=i) hi (o:=[]) (s:=.pu (.lst ds)) (v:=some (.ref a)) (fun a u e _=>e) (fun a ha=>let ⟨xs,e⟩:=(f.sl i).dom ha; ⟨_,e⟩) List.nodup_nil (fun a h=>by cases h)
      ⟨rfl,_,rfl,.lst (fun z=>?_) (.inl hH) hl (i1.kp (Kp.less less))⟩
    · rw [set_self hu] at st
      exact ⟨_,st⟩
    · rcases z with z | ⟨j,z⟩
      · exact (f.new i a (by rw [eo]; exact List.mem_singleton.mpr rfl)).2 z
      · by_cases hj:j=i
        · subst hj; rw [putO_same] at z; cases z
        · rw [putO_ne hj] at z; exact hj (f.dj j i a z (by rw [eo]; exact List.mem_singleton.mpr rfl))
  | od kvs =>
    have s:=f.sl i
    rw [e] at s
    obtain ⟨a,eo,hu,hH,hl⟩:=s
    have hi:=getD_lt e (by intro z; cases z)
    have st:=f.step (H':=H) (i:=i) hi (o:=[]) (s:=.pu (.dct kvs)) (v:=some (.ref a)) (fun a u e _=>e) (fun a ha=>let ⟨xs,e⟩:=(f.sl i).dom ha; ⟨_,e⟩) List.nodup_nil (fun a h=>by cases h)
      ⟨rfl,_,rfl,.dct (fun z=>?_) (.inl hH) hl⟩
    · rw [set_self hu] at st
      exact ⟨_,st⟩
    · rcases z with z | ⟨j,z⟩
      · exact (f.new i a (by rw [eo]; exact List.mem_singleton.mpr rfl)).2 z
      · by_cases hj:j=i
        · subst hj; rw [putO_same] at z; cases z
        · rw [putO_ne hj] at z; exact hj (f.dj j i a z (by rw [eo]; exact List.mem_singleton.mpr rfl))
  | om rows =>
    have s:=f.sl i
    rw [e] at s
    obtain ⟨a,ps,eo,hu,hH,hl,i1⟩:=s
    have hi:=getD_lt e (by intro z; cases z)
    have out:∀ b,b∈os i→¬ tot Z (putO os i []) b:=by
      rintro b hb (z | ⟨j,z⟩)
      · exact (f.new i b hb).2 z
      · by_cases hj:j=i
        · subst hj; rw [putO_same] at z; cases z
        · rw [putO_ne hj] at z; exact hj (f.dj j i b z hb)
    have rowsI:∀ {ps:List Addr} {rows:List (List D)},(∀ p∈ps,p∈os i)→Paired (fun p ds=>∃ vs,H p=some (.lst vs)∧vs.length≤sizeLine∧IsL K H (tot Z os) vs ds) ps rows→IsL K H (tot Z (putO os i [])) (ps.map V.ref) (rows.map D.lst):=by
      intro ps rows hp r
      induction r with
      | nil=>exact .nil
      | cons h _ ih =>
        obtain ⟨vs,q,hv,j⟩:=h
        exact .cons (.lst (out _ (hp _ List.mem_cons_self)) (.inl q) hv (j.kp (Kp.less less))) (ih fun p h=>hp p (List.mem_cons_of_mem _ h))
    have st:=f.step (H':=H) (i:=i) hi (o:=[]) (s:=.pu (.lst (rows.map D.lst))) (v:=some (.ref a)) (fun a u e _=>e) (fun a ha=>let ⟨xs,e⟩:=(f.sl i).dom ha; ⟨_,e⟩) List.nodup_nil (fun a h=>by cases h)
      ⟨rfl,_,rfl,.lst (out a (by rw [eo]; exact List.mem_cons_self)) (.inl hH) (by rw [List.length_map]; exact hl) (rowsI (fun p hp=>by rw [eo]; exact List.mem_cons_of_mem _ hp) i1)⟩
    rw [set_self hu] at st
    exact ⟨_,st⟩
  | un=>exact ⟨os,f,Kp.refl⟩
  | pu d=>exact ⟨os,f,Kp.refl⟩
  | bo d=>exact ⟨os,f,Kp.refl⟩
  | pm _ _ _=>exact ⟨os,f,Kp.refl⟩
  | pd _ _=>exact ⟨os,f,Kp.refl⟩
@[irreducible] noncomputable def sFrz (i:Nat) (s:DS):DS:=fun ρ=>s (frz i ρ)
theorem ss_frz {t:TS} {s:DS} (i:Nat) (h:SemS fr K t s):SemS fr K t (sFrz i s):=fun {B Z os ρ σ H E} f p=>by
  obtain ⟨os',f',k⟩:=f.freeze i
  unfold sFrz at p
  exact h f' (Post.kp k p)
theorem Fr.mutO {B H:Hp} {Z:Addr→Prop} {os:Own} {ρ:Rho} {σ:L2.St} (f:Fr K B Z os ρ σ H) {i:Nat} {a:Addr} {ds ds':List D} {vs':List V} (e:ρ.getD i .un=.ol ds) (hu:(σ[i]?).join=some (.ref a)) (hl:vs'.length≤sizeLine) (h:IsL K H (tot Z os) vs' ds') :
    ∃ os',Fr K B Z os' (ρ.set i (.ol ds')) σ (upd H a (.lst vs'))∧Kp (tot Z os) H (tot Z os') (upd H a (.lst vs')):=by
  have s:=f.sl i
  rw [e] at s
  obtain ⟨b,vs,eo,hu',hH,_,_⟩:=s
  rw [hu] at hu'
  cases hu'
  have hi:=getD_lt e (by intro z; cases z)
  have ha:a∈os i:=by rw [eo]; exact List.mem_singleton.mpr rfl
  have st:=f.step (H':=upd H a (.lst vs')) (i:=i) hi (o:=[a]) (s:=.ol ds') (v:=some (.ref a)) (fun b u e n=>by rw [upd_ne (fun z=>n (by rw [z]; exact ha))]; exact e) (fun b hb=>?_) (by simp) (fun b hb=>by rw [List.mem_singleton.mp hb]; exact .inl ha)
    ⟨a,vs',rfl,rfl,upd_same,hl,h.kp fun b u e z=>⟨?_,fun q=>z ?_⟩⟩
  · rw [set_self hu] at st
    exact ⟨_,st⟩
  · rw [eo] at hb; rw [List.mem_singleton.mp hb]; exact ⟨_,upd_same⟩
  · rw [upd_ne (fun w=>z (.inr ⟨i,by rw [w]; exact ha⟩))]; exact e
  · rcases q with q | ⟨j,q⟩
    · exact .inl q
    · by_cases hj:j=i
      · subst hj; rw [putO_same] at q; exact .inr ⟨j,by rw [List.mem_singleton.mp q]; exact ha⟩
      · rw [putO_ne hj] at q; exact .inr ⟨j,q⟩
theorem ol_of {B H:Hp} {Z:Addr→Prop} {os:Own} {ρ:Rho} {σ:L2.St} (f:Fr K B Z os ρ σ H) {i:Nat} {ds:List D} (e:ρ.getD i .un=.ol ds):∃ a vs,(σ[i]?).join=some (.ref a)∧H a=some (.lst vs)∧vs.length≤sizeLine∧IsL K H (tot Z os) vs ds:=by
  have s:=f.sl i
  rw [e] at s
  obtain ⟨b,vs,eo,hu',hH,hl,r⟩:=s
  exact ⟨b,vs,hu',hH,hl,r⟩
@[irreducible] noncomputable def sApp (i:Nat) (a:DE):DS:=fun ρ=>match ρ.getD i .un with
  | .ol ds=>(match a ρ with
    | some d=>if ds.length<sizeLine then .nx (ρ.set i (.ol (ds++[d]))) else .no
    | none=>.no)
  | _=>.no
theorem ss_app {i:Nat} {ta:TE} {a:DE} (h:SemI K ta a):SemS fr K (tDrop (tBM K "list" rAppend (tVar i) (tCons ta tNil))) (sApp i a):=fun {B Z os ρ σ H E} f p=>by
  unfold sApp at p
  split at p
  · rename_i ds e
    split at p
    · rename_i d e2
      by_cases hz:ds.length<sizeLine
      · rw [if_pos hz] at p
        obtain ⟨x,vs,hu,hH,hl,r⟩:=ol_of f e
        refine ⟨_,join_some hu,.inl ⟨rfl,_,SqL.of hH⟩,h f e2 fun v H1 s1 i1=>?_⟩
        have f1:=f.grow s1
        have r1:=r.same s1
        have hlen:vs.length<sizeLine:=by rw [r.length]; exact hz
        obtain ⟨os',f',k⟩:=f1.mutO (vs':=vs++[v]) (ds':=ds++[d]) e hu (by rw [List.length_append,List.length_singleton]; omega) (r1.append (.one i1))
        exact ⟨x,vs,v,rfl,rfl,s1 _ _ hH,hlen,p os' _ _ f' ((Kp.same s1).trans k)⟩
      · rw [if_neg hz] at p; exact p.elim
    · exact p.elim
  · exact p.elim
@[irreducible] noncomputable def sExt (i:Nat) (a:DE):DS:=fun ρ=>match ρ.getD i .un with
  | .ol ds=>(match a ρ with
    | some (.lst es)=>if ds.length+es.length≤sizeLine then .nx (ρ.set i (.ol (ds++es))) else .no
    | _=>.no)
  | _=>.no
theorem ss_ext {i:Nat} {ta:TE} {a:DE} (h:SemI K ta a):SemS fr K (tDrop (tBM K "list" rExtR (tVar i) (tCons ta tNil))) (sExt i a):=fun {B Z os ρ σ H E} f p=>by
  unfold sExt at p
  split at p
  · rename_i ds e
    split at p
    · rename_i es e2
      by_cases hz:ds.length+es.length≤sizeLine
      · rw [if_pos hz] at p
        obtain ⟨x,vs,hu,hH,hl,r⟩:=ol_of f e
        refine ⟨_,join_some hu,.inl ⟨rfl,_,SqL.of hH⟩,h f e2 fun v H1 s1 i1=>?_⟩
        obtain ⟨b,us,rfl,_,hb,_,r2⟩:=i1.isLst
        have f1:=f.grow s1
        have r1:=r.same s1
        have hlen:vs.length+us.length≤sizeLine:=by rw [r.length,r2.length]; exact hz
        obtain ⟨os',f',k⟩:=f1.mutO (vs':=vs++us) (ds':=ds++es) e hu (by rw [List.length_append]; exact hlen) (r1.append r2)
        exact ⟨x,b,vs,us,rfl,rfl,s1 _ _ hH,hb,hlen,p os' _ _ f' ((Kp.same s1).trans k)⟩
      · rw [if_neg hz] at p; exact p.elim
    · exact p.elim
  · exact p.elim
@[irreducible] noncomputable def sPut (i:Nat) (b a:DE):DS:=fun ρ=>match ρ.getD i .un with
  | .ol ds=>(match a ρ with
    | some d=>(match b ρ with
      | some (.int n)=>(match ixN ds.length n with
        | some j=>.nx (ρ.set i (.ol (ds.set j d)))
        | none=>.no)
      | _=>.no)
    | none=>.no)
  | _=>.no
theorem ss_put {i:Nat} {ta tb:TE} {a b:DE} (ha:SemI K ta a) (hb:SemB K tb b):SemS fr K (tAsg ta (gSub (tVar i) tb rSetL)) (sPut i b a):=fun {B Z os ρ σ H E} f p=>by
  unfold sPut at p
  split at p
  · rename_i ds e
    split at p
    · rename_i d e2
      split at p
      · rename_i n e3
        split at p
        · rename_i j e4
          obtain ⟨x,vs,hu,hH,hl,r⟩:=ol_of f e
          refine ha f e2 fun v H1 s1 i1=>⟨_,join_some hu,hb (f.grow s1) e3 fun w H2 s2 i2=>?_⟩
          have s12:=s1.trans s2
          have f1:=f.grow s12
          have r1:=r.same s12
          obtain ⟨os',f',k⟩:=f1.mutO (vs':=vs.set j v) (ds':=ds.set j d) e hu (by rw [List.length_set]; exact hl) (r1.set (i1.same s2) j)
          exact ⟨x,vs,n,j,rfl,i2.isInt,s12 _ _ hH,by rw [r.length]; exact e4,p os' _ _ f' ((Kp.same s12).trans k)⟩
        · exact p.elim
      · exact p.elim
    · exact p.elim
  · exact p.elim
@[irreducible] noncomputable def sAug (g:Int→Int→Int) (i:Nat) (a:DE):DS:=fun ρ=>match dVar i ρ with
  | some (.int x)=>(match a ρ with
    | some (.int y)=>.nx (ρ.set i (.pu (.int (g x y))))
    | _=>.no)
  | _=>.no
theorem ss_aug {i:Nat} {g:Int→Int→Int} {ta:TE} {a:DE} (ha:SemB K ta a):SemS fr K (tAug i ta (ipI g)) (sAug g i a):=fun {B Z os ρ σ H E} f p=>by
  unfold sAug at p
  split at p
  · rename_i x e
    split at p
    · rename_i y e2
      have q:=sb_var i f (Q:=fun v H'=>v=.int x∧H'=H) e
      obtain ⟨u,hu,ix⟩:∃ u,σ[i]?=some (some u)∧u=.int x:=by
        have s:=f.sl i
        unfold dVar at e
        cases e0:ρ.getD i .un with
        | un=>rw [e0] at e; cases e
        | pu d=>rw [e0] at e s; cases e; obtain ⟨_,u,hu,i1⟩:=s; exact ⟨u,join_some hu,i1.isInt⟩
        | bo d=>rw [e0] at e s; cases e; obtain ⟨_,u,hu,i1⟩:=s; exact ⟨u,join_some hu,i1.isInt⟩
        | ol d=>rw [e0] at e; cases e
        | om d=>rw [e0] at e; cases e
        | od d=>rw [e0] at e; cases e
        | pm _ _ d=>rw [e0] at e; cases e
        | pd _ d=>rw [e0] at e; cases e
      refine ⟨u,hu,ha f e2 fun v H1 s1 i1=>⟨x,y,ix,i1.isInt,?_⟩⟩
      obtain ⟨os',f',k⟩:=(f.grow s1).putm (m:=true) i (v:=.int (g x y)) (d:=.int (g x y)) (.int _)
      exact p os' _ _ f' ((Kp.same s1).trans k)
    · exact p.elim
  · exact p.elim
def forD (g:DG) (b:DS):List D→DS
  | [],ρ=>.nx ρ
  | d::ds,ρ=>match g d ρ with
    | none=>.no
    | some ρ1=>match b ρ1 with
      | .nx ρ2=>forD g b ds ρ2
      | .ct ρ2=>forD g b ds ρ2
      | .bk ρ2=>.nx ρ2
      | .rt d=>.rt d
      | .no=>.no
@[irreducible] noncomputable def sFor (it:Rho→Option (List D)) (g:DG) (b:DS):DS:=fun ρ=>match it ρ with
  | some ds=>forD g b ds ρ
  | none=>.no
theorem ss_for {m:Bool} {wi:TI} {t:TG} {tb:TS} {it:Rho→Option (List D)} {g:DG} {b:DS} (hw:SemW K m wi it) (hg:SemG K m t g) (hb:SemS fr K tb b):SemS fr K (tFor wi t tb) (sFor it g b):=fun {B Z os ρ σ H E} f p=>by
  unfold sFor at p
  split at p
  · rename_i ds e0
    refine hw f e0 fun J H1 s1 W=>?_
    refine ⟨fun i m σ' H'=>∃ os' ρ',m=ds.length-i∧i≤ds.length∧Fr K B Z os' ρ' σ' H'∧Kp (tot Z os) H1 (tot Z os') H'∧Post fr K B Z os H1 E (forD g b (ds.drop i) ρ'),⟨_,os,ρ,rfl,Nat.zero_le _,f.grow s1,Kp.refl,Post.kp (Kp.same s1) p⟩,?_⟩
    rintro i mm σ2 H2 ⟨os2,ρ2,rfl,hi,f2,k2,p2⟩
    by_cases hlt:i<ds.length
    · have ex:ds[i]?=some ds[i]:=List.getElem?_eq_getElem hlt
      obtain ⟨go,yl⟩:=W.go i ds[i] H2 _ k2 f2.keep f2.tin ex
      rw [List.drop_eq_getElem_cons hlt] at p2
      refine .inr ⟨go,fun σ' H'=>∃ os' ρ',Fr K B Z os' ρ' σ' H'∧Kp (tot Z os) H1 (tot Z os') H'∧Post fr K B Z os H1 E (forD g b (ds.drop (i+1)) ρ'),fun σ' H' ⟨os',ρ',h1,h2,h3⟩=>⟨_,by omega,os',ρ',rfl,hlt,h1,h2,h3⟩,fun x H3 hy=>?_⟩
      obtain ⟨s3,er⟩:=yl x H3 hy
      unfold forD at p2
      split at p2
      · exact p2.elim
      · rename_i ρ1 e1
        have er':ER K m B H3 (tot Z os2) x ds[i]:=er
        refine hg (f2.grow s3) er' e1 fun os3 σ3 f3 k3=>hb f3 ?_
        have k13:Kp (tot Z os) H1 (tot Z os3) H3:=(k2.trans (Kp.same s3)).trans k3
        split at p2
        · rename_i ρ4 e4
          rw [e4]
          exact fun os' σ' H' f' k'=>⟨os',_,f',k13.trans k',p2⟩
        · rename_i ρ4 e4
          rw [e4]
          exact fun os' σ' H' f' k'=>⟨os',_,f',k13.trans k',p2⟩
        · rename_i ρ4 e4
          rw [e4]
          exact fun os' σ' H' f' k'=>p2 os' σ' H' f' (k13.trans k')
        · rename_i d e4
          rw [e4]
          exact p2
        · exact p2.elim
    · have e:i=ds.length:=by omega
      subst e
      rw [List.drop_length] at p2
      exact .inl ⟨W.stop _ H2 _ k2 f2.keep rfl,p2 os2 σ2 H2 f2 k2⟩
  · exact p.elim
def whN (c:Rho→Option Bool) (b:DS):Nat→DS
  | 0,ρ=>match c ρ with
    | some false=>.nx ρ
    | _=>.no
  | n+1,ρ=>match c ρ with
    | some false=>.nx ρ
    | some true=>(match b ρ with
      | .nx ρ'=>whN c b n ρ'
      | .ct ρ'=>whN c b n ρ'
      | .bk ρ'=>.nx ρ'
      | .rt d=>.rt d
      | .no=>.no)
    | none=>.no
@[irreducible] noncomputable def sWhile (c:Rho→Option Bool) (b:DS):DS:=fun ρ=>if h:∃ n,whN c b n ρ≠.no then whN c b h.choose ρ else .no
theorem whN_mono {c:Rho→Option Bool} {b:DS}:∀ {n:Nat} {ρ:Rho},whN c b n ρ≠.no→whN c b (n+1) ρ=whN c b n ρ
  | 0,ρ,h=>by
    unfold whN at h ⊢
    split at h
    · rename_i e; rw [e]
    · exact absurd rfl h
  | n+1,ρ,h=>by
    have e1:whN c b (n+1+1) ρ=(match c ρ with | some false=>.nx ρ | some true=>(match b ρ with | .nx ρ'=>whN c b (n+1) ρ' | .ct ρ'=>whN c b (n+1) ρ' | .bk ρ'=>.nx ρ' | .rt d=>.rt d | .no=>.no) | none=>.no):=rfl
    have e2:whN c b (n+1) ρ=(match c ρ with | some false=>.nx ρ | some true=>(match b ρ with | .nx ρ'=>whN c b n ρ' | .ct ρ'=>whN c b n ρ' | .bk ρ'=>.nx ρ' | .rt d=>.rt d | .no=>.no) | none=>.no):=rfl
    rw [e1]
    rw [e2] at h ⊢
    cases e3:c ρ with
    | none=>rfl
    | some x =>
      rw [e3] at h
      cases x with
      | false=>rfl
      | true =>
        cases e4:b ρ with
        | nx ρ'=>rw [e4] at h; exact whN_mono h
        | ct ρ'=>rw [e4] at h; exact whN_mono h
        | _=>rfl
theorem whN_le {c:Rho→Option Bool} {b:DS} {n k:Nat} {ρ:Rho} (h:whN c b n ρ≠.no):whN c b (n+k) ρ=whN c b n ρ:=by
  induction k with
  | zero=>rfl
  | succ k ih=>rw [← Nat.add_assoc,whN_mono (by rw [ih]; exact h),ih]
theorem sWhile_of {c:Rho→Option Bool} {b:DS} {n:Nat} {ρ:Rho} {r:Res} (h:whN c b n ρ=r) (hr:r≠.no):sWhile c b ρ=r:=by
  have ex:∃ n,whN c b n ρ≠.no:=⟨n,by rw [h]; exact hr⟩
  unfold sWhile
  rw [dif_pos ex]
  have q:=ex.choose_spec
  generalize ex.choose=m at q
  have e1:=whN_le (k:=n) q
  have e2:=whN_le (k:=m) (show whN c b n ρ≠.no by rw [h]; exact hr)
  rw [Nat.add_comm] at e2
  rw [← e1,e2,h]
theorem ss_while {tc:TT} {tb:TS} {c:Rho→Option Bool} {b:DS} (hc:SemT K tc c) (hb:SemS fr K tb b):SemS fr K (tWhile tc tb) (sWhile c b):=fun {B Z os ρ σ H E} f p=>by
  unfold sWhile at p
  by_cases ex:∃ n,whN c b n ρ≠.no
  · rw [dif_pos ex] at p
    generalize ex.choose=n0 at p
    refine ⟨fun m σ' H'=>∃ os' ρ',Fr K B Z os' ρ' σ' H'∧Kp (tot Z os) H (tot Z os') H'∧Post fr K B Z os H E (whN c b m ρ'),⟨n0,os,ρ,f,Kp.refl,p⟩,?_⟩
    rintro m σ2 H2 ⟨os2,ρ2,f2,k2,p2⟩
    cases m with
    | zero =>
      unfold whN at p2
      split at p2
      · rename_i e
        exact hc f2 e fun H3 s3=>iteF (p2 os2 σ2 H3 (f2.grow s3) (k2.trans (Kp.same s3)))
      · exact p2.elim
    | succ m =>
      have p2:Post fr K B Z os H E (match c ρ2 with | some false=>.nx ρ2 | some true=>(match b ρ2 with | .nx ρ'=>whN c b m ρ' | .ct ρ'=>whN c b m ρ' | .bk ρ'=>.nx ρ' | .rt d=>.rt d | .no=>.no) | none=>.no):=p2
      cases e:c ρ2 with
      | none=>rw [e] at p2; exact p2.elim
      | some x =>
        rw [e] at p2
        cases x with
        | false=>exact hc f2 e fun H3 s3=>iteF (p2 os2 σ2 H3 (f2.grow s3) (k2.trans (Kp.same s3)))
        | true =>
          refine hc f2 e fun H3 s3=>iteT ⟨fun σ' H'=>∃ os' ρ',Fr K B Z os' ρ' σ' H'∧Kp (tot Z os) H (tot Z os') H'∧Post fr K B Z os H E (whN c b m ρ'),fun σ' H' h=>⟨m,Nat.lt_succ_self _,h⟩,hb (f2.grow s3) ?_⟩
          have k3:=k2.trans (Kp.same s3)
          cases e4:b ρ2 with
          | nx ρ'=>rw [e4] at p2; exact fun os' σ' H' f' k'=>⟨os',_,f',k3.trans k',p2⟩
          | ct ρ'=>rw [e4] at p2; exact fun os' σ' H' f' k'=>⟨os',_,f',k3.trans k',p2⟩
          | bk ρ'=>rw [e4] at p2; exact fun os' σ' H' f' k'=>p2 os' σ' H' f' (k3.trans k')
          | rt d=>rw [e4] at p2; exact p2
          | no=>rw [e4] at p2; exact p2.elim
  · rw [dif_neg ex] at p; exact p.elim
def stD (n:Nat) (ms:List Bool) (ds:List D):Rho:=List.zipWith slm ms ds++List.replicate (n-ds.length) .un
@[irreducible] def runD (n:Nat) (ms:List Bool) (b:DS) (ds:List D):Option D:=match b (stD n ms ds) with
  | .rt d=>some d
  | .nx _=>some .non
  | _=>none
theorem startFr {H:Hp} {Z:Addr→Prop} {N:List Str} {ms:List Bool} {vs:List V} {ds:List D} (hz:ZT Z H) (h:Args K H Z ms vs ds):Fr K H Z (fun _=>[]) (stD N.length ms ds) (L2.start N vs) H where
  keep:=Same.refl _
  zin:=hz.1
  tab:=hz.2
  len:=by
    unfold stD L2.start
    have:=h.len
    simp only [List.length_append,List.length_map,List.length_replicate,List.length_zipWith]
    omega
  nd:=fun _=>List.nodup_nil
  dj:=fun _ _ _ h=>by cases h
  new:=fun _ _ h=>by cases h
  sl:=fun j=>by
    have hl:=h.len
    have key:∀ {ms:List Bool} {vs:List V} {ds:List D} (j:Nat),Args K H Z ms vs ds→j<ms.length→SlOk K H H (tot Z fun _=>[]) [] (((List.zipWith slm ms ds)[j]?).getD .un) ((vs.map some)[j]?.join):=by
      intro ms vs ds j h
      induction h generalizing j with
      | nil=>intro hj; simp at hj
      | own i _ ih =>
        intro hj
        cases j with
        | zero=>exact ⟨rfl,_,rfl,i.kp (Kp.less fun a z=>z.elim id fun ⟨_,w⟩=>by cases w)⟩
        | succ j=>exact ih j (by simpa using hj)
      | any i _ ih =>
        intro hj
        cases j with
        | zero=>exact ⟨rfl,_,rfl,i⟩
        | succ j=>exact ih j (by simpa using hj)
    unfold stD L2.start
    rw [List.getD_eq_getElem?_getD]
    by_cases hj:j<ms.length
    · rw [List.getElem?_append_left (by rw [List.length_zipWith]; omega),List.getElem?_append_left (by rw [List.length_map]; omega)]
      exact key j h hj
    · rw [List.getElem?_append_right (by rw [List.length_zipWith]; omega),List.getElem?_replicate]
      split <;> exact rfl
theorem Fun.okD {P:Program} {w:World} {mg:Str→Option Value} {base:Heap} {x qual:Str} {st:Stmt} {f:Addr} {fd:FuncData} {N ps:List Str} {k:Nat} (F:Fun K x qual st f fd) (S:FnScope N ps (defScope st)) (ms:List Bool) (hms:ms.length=ps.length) (b:DS)
    (hbody:∀ (cdv:Value) (A:Around) (outer:List Env) (s:Shared) (H:Hp) (E:XK),Room k (A.deeper (PyProof.Rows.envOfC qual (defScope st) s.heap.objs.size f cdv)) →
      ∃ t,PSs (cxOf CX0 P w K mg base N qual (defScope st) f cdv A outer s H E).nox (defBody st) t∧SemS .v K t b):FnOk P w K mg base CX0 (k+1) f fd ps (spD .v K ms (runD N.length ms b)):=by
  refine F.ok S (fun vs H Q E h=>?_) (fun cdv A outer s H vs Q E hr h=>?_)
  · obtain ⟨Z,ds,d,hz,a,_⟩:=h
    rw [a.len.1,hms]
  · obtain ⟨Z,ds,d,hz,a,e,k⟩:=h
    obtain ⟨t,h1,h2⟩:=hbody cdv A outer s H E hr
    refine ⟨t,h1,h2 (startFr hz a) ?_⟩
    unfold runD at e
    split at e
    · rename_i d' e1
      cases e
      rw [e1]
      exact fun v H' s' i=>k v H' s' i
    · rename_i ρ e1
      cases e
      rw [e1]
      exact fun os' σ' H' f' _=>k _ H' f'.keep .non
    · cases e
end
end VL
namespace L2
open PySem PySem.Spec PyProof.Rows
open VL (s0)
section
variable {X:Cx}
inductive SubL (X:Cx):List (Str×Addr)→Prop
  | nil:SubL X []
  | cons {z:Str} {c:Addr} {r:List (Str×Addr)}:X.env.cells.lookup z=some c→SubL X r→SubL X ((z,c)::r)
theorem SubL.sub {cl:List (Str×Addr)} (h:SubL X cl):∀ x c,cl.lookup x=some c→X.env.cells.lookup x=some c:=by
  induction h with
  | nil=>intro x c e; cases e
  | @cons z c r h _ ih =>
    intro x c' e
    rw [List.lookup_cons] at e
    cases q:x==z with
    | true=>rw [q] at e; cases e; rw [eq_of_beq q]; exact h
    | false=>rw [q] at e; exact ih x c' e
inductive CapL (X:Cx) (scope:Scope) (cl:List (Str×Addr)):List Nat→List Str→Prop
  | nil:CapL X scope cl [] []
  | cons {i:Nat} {z:Str} {c:Addr} {is:List Nat} {zs:List Str}:X.N[i]?=some z→(X.env.scope.names.lookup z=some .cell∨X.env.scope.names.lookup z=some .free)→cl.lookup z=some c →
      ((relabel scope X.env).names.lookup z=some .cell∨(relabel scope X.env).names.lookup z=some .free)→CapL X scope cl is zs→CapL X scope cl (i::is) (z::zs)
theorem CapL.get {scope:Scope} {cl:List (Str×Addr)} {is:List Nat} {zs:List Str} (h:CapL X scope cl is zs):∀ (j:Nat) (z:Str),zs[j]?=some z→∃ i c,is[j]?=some i∧X.N[i]?=some z∧(X.env.scope.names.lookup z=some .cell∨X.env.scope.names.lookup z=some .free)∧cl.lookup z=some c ∧
      ((relabel scope X.env).names.lookup z=some .cell∨(relabel scope X.env).names.lookup z=some .free):=by
  induction h with
  | nil=>intro j z e; simp at e
  | cons h1 h2 h3 h4 _ ih =>
    intro j z e
    cases j with
    | zero=>cases e; exact ⟨_,_,rfl,h1,h2,h3,h4⟩
    | succ j=>exact ih j z (by simpa using e)
theorem CapL.len {scope:Scope} {cl:List (Str×Addr)} {is:List Nat} {zs:List Str} (h:CapL X scope cl is zs):is.length=zs.length:=by
  induction h with
  | nil=>rfl
  | cons _ _ _ _ _ ih=>simp [ih]
theorem Frees.many {scope:Scope} {cl:List (Str×Addr)} {is:List Nat} {ts zs:List Str} {k:Nat} {σ:St} (hk:ts.length=k) (hs:SubL X cl) (hc:CapL X scope cl is zs)
    (ha:((relabel scope X.env).names.all fun y=>!(y.2==.cell || y.2==.free) || zs.contains y.1)=true):Frees X (ts++zs) scope cl σ (s0 k is σ) where
  sub:=hs.sub
  vals:=fun j x v e1 e2=>by
    unfold s0 at e2
    by_cases hj:j<k
    · rw [List.getElem?_append_left (by simpa using hj),List.getElem?_replicate,if_pos hj] at e2; cases e2
    · rw [List.getElem?_append_right (by simpa using hj),List.length_replicate,List.getElem?_map] at e2
      rw [List.getElem?_append_right (by omega),hk] at e1
      obtain ⟨i,c,f1,f2,f3,f4,f5⟩:=hc.get _ _ e1
      rw [f1] at e2
      have e3:(σ[i]?).join=some v:=Option.some.inj e2
      refine ⟨i,c,f2,VL.join_some e3,?_,?_,f4,f5⟩
      · rcases f3 with q | q
        · exact .inr (.inl q)
        · exact .inr (.inr q)
      · intro w
        have w:X.env.scope.names.lookup x=some .local:=w
        rcases f3 with q | q <;> rw [q] at w <;> cases w
  has:=fun x h=>by
    have key:∀ kd,(relabel scope X.env).names.lookup x=some kd→(kd==NameKind.cell || kd==NameKind.free)=true→x∈zs:=fun kd e q=>by
      have m:=List.all_eq_true.mp ha _ (PySem.mem_of_lookup e)
      rw [q] at m
      have:zs.contains x=true:=by simpa using m
      exact List.contains_iff_mem.mp this
    have mem:x∈zs:=by
      rcases h with h | h
      · exact key _ h rfl
      · exact key _ h rfl
    obtain ⟨j,hj⟩:=List.getElem?_of_mem mem
    obtain ⟨i,c,_,_,_,f4,_⟩:=hc.get j x hj
    exact ⟨c,f4⟩
  len:=by unfold s0; rw [List.length_append,List.length_append,List.length_replicate,List.length_map,hk,hc.len]
def Low (k:Nat) (g:TG):Prop:=∀ x σ H (Q:St→Hp→Prop),g x σ H Q→∃ σ2 H2,Q σ2 H2∧σ2.length=σ.length∧(∀ j,k≤j→σ2[j]?=σ[j]?)∧∀ Q':St→Hp→Prop,Q' σ2 H2→g x σ H Q'
def Lows (k:Nat) (g:TGs):Prop:=∀ x σ H (Q:St→Hp→Prop),g x σ H Q→∃ σ2 H2,Q σ2 H2∧σ2.length=σ.length∧(∀ j,k≤j→σ2[j]?=σ[j]?)∧∀ Q':St→Hp→Prop,Q' σ2 H2→g x σ H Q'
theorem low_name {k i:Nat} (h:i<k):Low k (gName i):=fun x σ H Q q=>⟨_,_,q,List.length_set,fun j hj=>by rw [List.getElem?_set_ne (by omega)],fun _ z=>z⟩
theorem lows_nil {k:Nat}:Lows k gNil:=fun x σ H Q q=>⟨_,_,q.2,rfl,fun _ _=>rfl,fun _ z=>⟨q.1,z⟩⟩
theorem lows_cons {t:TG} {u:TGs} {k:Nat} (h1:Low k t) (h2:Lows k u):Lows k (gCons t u):=fun x σ H Q q=>by
  obtain ⟨v,r,e,q⟩:=q
  obtain ⟨σ1,H1,q1,l1,k1,g1⟩:=h1 _ _ _ _ q
  obtain ⟨σ2,H2,q2,l2,k2,g2⟩:=h2 _ _ _ _ q1
  exact ⟨σ2,H2,q2,l2.trans l1,fun j hj=>(k2 j hj).trans (k1 j hj),fun Q' z=>⟨v,r,e,g1 _ (g2 Q' z)⟩⟩
theorem low_seq {K:PySem.W.Frag} {u:TGs} {k n:Nat} (h:Lows k u):Low k (gSeq K n u):=fun x σ H Q q=>by
  rcases q with ⟨a,xs,e,hs,hl,q⟩ | ⟨a,xs,e,hs,hl,q⟩
  · obtain ⟨σ1,H1,q1,l1,k1,g1⟩:=h _ _ _ _ q
    exact ⟨σ1,H1,q1,l1,k1,fun Q' z=>.inl ⟨a,xs,e,hs,hl,g1 Q' z⟩⟩
  · obtain ⟨σ1,H1,q1,l1,k1,g1⟩:=h _ _ _ _ q
    exact ⟨σ1,H1,q1,l1,k1,fun Q' z=>.inr ⟨a,xs,e,hs,hl,g1 Q' z⟩⟩
theorem Low.keep {k:Nat} {g:TG} {cs:List Nat} (h:Low k g) (σ:St):Keepg g (s0 k cs σ):=fun x H Q q=>by
  obtain ⟨σ1,H1,q1,l1,k1,g1⟩:=h _ _ _ _ q
  refine g1 _ ⟨q1,l1,fun j v e=>?_⟩
  by_cases hj:j<k
  · unfold s0 at e
    rw [List.getElem?_append_left (by simpa using hj),List.getElem?_replicate,if_pos hj] at e; cases e
  · rw [k1 j (by omega)]; exact e
theorem pgb {N':List Str} {scope:Scope} {cl:List (Str×Addr)} {i:Nat} {y:Str} {py:Pos} (nd:N'.Nodup) (hi:N'[i]?=some y) (hx:scope.names.lookup y=some .local) {C:Addr} {s3:Shared} {H3:Hp} {fp:List Addr} {pins:List (Addr×Obj)} :
    PG (compCx X N' scope cl C s3 H3 fp pins) (.Name y py) (gName i):=pg_name nd hi (.inl (lookup_relabel_local hx)) (.inr (lookup_relabel_local hx))
variable {tg elt iter c:Expr} {scope:Scope} {cl:List (Str×Addr)} {ts zs:List Str} {is:List Nat} {k:Nat} {g:TG} {tt:TT} {te:TE} {wi:TI} {pos:Pos}
theorem pe_cN0 (hc:X.calm=true) (hi:PI X tg iter wi) (hk:ts.length=k) (hs:SubL X cl) (hcp:CapL X scope cl is zs) (ha:((relabel scope X.env).names.all fun y=>!(y.2==.cell || y.2==.free) || zs.contains y.1)=true) (hl:Low k g)
    (hg:∀ C s3 H3 fp pins,PG (compCx X (ts++zs) scope cl C s3 H3 fp pins) tg g) (he:∀ C s3 H3 fp pins,PE (compCx X (ts++zs) scope cl C s3 H3 fp pins) elt te)
    (hclos:closureFor scope X.env=pure cl) (hcell:∀ y∈scope.names,y.2≠.cell) (hkind:scope.kind=.function) (hnames:∀ y∈scope.names,y.2=.local→scope.names.lookup y.1=some .local)
    (hf:∀ x,foldedSetIterable iter X.env x=pure x:=by intro _; rfl):PE X (.ListComp elt [⟨tg,iter,[],0⟩] scope pos) (tComp wi g tTrue te (s0 k is)) :=
  pe_compG hc hi (fun _ _=>Frees.many hk hs hcp ha) (fun σ=>hl.keep σ) hg tests0 he hclos hcell hkind hnames hf
theorem pe_cN1 (hc:X.calm=true) (hi:PI X tg iter wi) (hk:ts.length=k) (hs:SubL X cl) (hcp:CapL X scope cl is zs) (ha:((relabel scope X.env).names.all fun y=>!(y.2==.cell || y.2==.free) || zs.contains y.1)=true) (hl:Low k g)
    (hg:∀ C s3 H3 fp pins,PG (compCx X (ts++zs) scope cl C s3 H3 fp pins) tg g) (ht:∀ C s3 H3 fp pins,PT (compCx X (ts++zs) scope cl C s3 H3 fp pins) c tt) (he:∀ C s3 H3 fp pins,PE (compCx X (ts++zs) scope cl C s3 H3 fp pins) elt te)
    (hclos:closureFor scope X.env=pure cl) (hcell:∀ y∈scope.names,y.2≠.cell) (hkind:scope.kind=.function) (hnames:∀ y∈scope.names,y.2=.local→scope.names.lookup y.1=some .local)
    (hf:∀ x,foldedSetIterable iter X.env x=pure x:=by intro _; rfl):PE X (.ListComp elt [⟨tg,iter,[c],0⟩] scope pos) (tComp wi g tt te (s0 k is)) :=
  pe_compG hc hi (fun _ _=>Frees.many hk hs hcp ha) (fun σ=>hl.keep σ) hg (tests1 ht) he hclos hcell hkind hnames hf
theorem ps_cN0 {i:Nat} {x:Str} {pos' spos:Pos} (hN:X.N.Nodup) (hi':X.N[i]?=some x) (hxl:X.env.scope.names.lookup x=some .local) (hc:X.calm=true) (hi:PI X tg iter wi) (hk:ts.length=k) (hs:SubL X cl) (hcp:CapL X scope cl is zs) (ha:((relabel scope X.env).names.all fun y=>!(y.2==.cell || y.2==.free) || zs.contains y.1)=true) (hl:Low k g)
    (hg:∀ C s3 H3 fp pins,PG (compCx X (ts++zs) scope cl C s3 H3 fp pins) tg g) (he:∀ C s3 H3 fp pins,PE (compCx X (ts++zs) scope cl C s3 H3 fp pins) elt te)
    (hclos:closureFor scope X.env=pure cl) (hcell:∀ y∈scope.names,y.2≠.cell) (hkind:scope.kind=.function) (hnames:∀ y∈scope.names,y.2=.local→scope.names.lookup y.1=some .local)
    (hf:∀ x,foldedSetIterable iter X.env x=pure x:=by intro _; rfl) (hsw:swapsWith (.ListComp elt [⟨tg,iter,[],0⟩] scope pos) (some (.Name x pos')) spos.line X.env=pure true:=by rfl):PS X (.Assign [.Name x pos'] (.ListComp elt [⟨tg,iter,[],0⟩] scope pos) spos) (tSetC (tComp wi g tTrue te (s0 k is)) i) :=
 ps_setCG hN hi' (.inl hxl) (.inr hxl) hc hi (fun _ _=>Frees.many hk hs hcp ha) (fun σ=>hl.keep σ) hg tests0 he hclos hcell hkind hnames hf hsw
theorem ps_cN1 {i:Nat} {x:Str} {pos' spos:Pos} (hN:X.N.Nodup) (hi':X.N[i]?=some x) (hxl:X.env.scope.names.lookup x=some .local) (hc:X.calm=true) (hi:PI X tg iter wi) (hk:ts.length=k) (hs:SubL X cl) (hcp:CapL X scope cl is zs) (ha:((relabel scope X.env).names.all fun y=>!(y.2==.cell || y.2==.free) || zs.contains y.1)=true) (hl:Low k g)
    (hg:∀ C s3 H3 fp pins,PG (compCx X (ts++zs) scope cl C s3 H3 fp pins) tg g) (ht:∀ C s3 H3 fp pins,PT (compCx X (ts++zs) scope cl C s3 H3 fp pins) c tt) (he:∀ C s3 H3 fp pins,PE (compCx X (ts++zs) scope cl C s3 H3 fp pins) elt te)
    (hclos:closureFor scope X.env=pure cl) (hcell:∀ y∈scope.names,y.2≠.cell) (hkind:scope.kind=.function) (hnames:∀ y∈scope.names,y.2=.local→scope.names.lookup y.1=some .local)
    (hf:∀ x,foldedSetIterable iter X.env x=pure x:=by intro _; rfl) (hsw:swapsWith (.ListComp elt [⟨tg,iter,[c],0⟩] scope pos) (some (.Name x pos')) spos.line X.env=pure true:=by rfl):PS X (.Assign [.Name x pos'] (.ListComp elt [⟨tg,iter,[c],0⟩] scope pos) spos) (tSetC (tComp wi g tt te (s0 k is)) i) :=
 ps_setCG hN hi' (.inl hxl) (.inr hxl) hc hi (fun _ _=>Frees.many hk hs hcp ha) (fun σ=>hl.keep σ) hg (tests1 ht) he hclos hcell hkind hnames hf hsw
theorem pi_listK {K:PySem.W.Frag} {l:Expr} {tl:TE} (h:X.K=K) (hl:PE X l tl):PI X tg l (iList K tl):=by subst h; exact pi_list hl
theorem pi_enumK {K:PySem.W.Frag} {l:Expr} {tl:TE} {elts:List Expr} {x1} {tpos p pos:Pos} (h:X.K=K) (hg:Gl X "enumerate") (hm:X.mg "enumerate" = none) (hl:PE X l tl) (hs:starEach [l] X.env=[(false,eval l X.env)]:=by rfl):PI X (.Tuple elts x1 tpos) (.Call (.Name "enumerate" p) [l] [] pos) (iEnum K tl):=by subst h; exact pi_enum hg hm hl hs
end
end L2
namespace VL
open PySem L2
def sp_law [Tabs] (K:PySem.W.Frag):Sp:=fun vs H Q _=>∃ (a:Addr) (ns:List Int),vs=[.ref a]∧SqL K H a (ns.map V.int)∧ns.length≤63∧(∀ m∈ns,Builtin.Int.intBits m≤1048576)∧TabIn H∧∀ H',Q (.bl true) H'
theorem sp_law_of [Tabs] {K:PySem.W.Frag} {F:List D→Option D} (ht:∀ ns:List Int,ns.length≤63→(∀ m∈ns,Builtin.Int.intBits m≤1048576)→F [.scr ns]=some (.bl true)) {vs:List V} {H:Hp} {Q:VK} {E:XK} (h:sp_law K vs H Q E):spD .v K [false] F vs H Q E:=by
  obtain ⟨a,ns,rfl,hS,hl,hb,htab,k⟩:=h
  have hz:ns.length≤sizeLine:=Nat.le_trans hl (by decide)
  refine ⟨No,[.scr ns],.bl true,⟨fun a z=>z.elim,htab⟩,.any ?_ .nil,ht ns hl hb,fun v H' s i=>by cases i; exact k H'⟩
  rcases hS with hS | hS
  · exact .scr (fun z=>z) hS hz
  · exact .scrK hS hz
end VL
namespace L2
open PySem PySem.Spec PyProof.Rows
section
variable {X:Cx} {K:PySem.W.Frag}
theorem call_min1K (hc:X.calm=true) (hK:X.K=K):CallR X (.builtin "min") (fun xs H Q=>∃ (p:Addr) (ns:List Int),xs=[.ref p]∧SqL K H p (ns.map V.int)∧ns≠[]∧∀ M,M∈ns→(∀ a,a∈ns→M≤a)→Q (.int M) H):=by
  subst hK
  intro pins s σ H xs us Q I r h
  obtain ⟨p,ns,rfl,hq,hne,q⟩:=h
  obtain ⟨u,rfl,rx⟩:=vals1 r
  cases rx
  obtain ⟨its,r',pl,hz⟩:=I.list hq
  have hi:=intsAre_of r'
  obtain ⟨ys,e⟩:=hi.allInts.items
  have hns:ns=ys.toList.map (·.1):=by
    rw [← hi.numsOf,← nums_intItems,← e]
  have hsz:0<ys.size:=by
    have h3:=List.length_pos_iff.mpr hne
    rw [hns,List.length_map,Array.length_toList] at h3
    exact h3
  have hl:=pl.isList
  rw [e] at hl
  refine min_intList (I.ok.hd hc) hl hsz fun v h' tk hv hk=>?_
  obtain ⟨t,rfl⟩:=intItems_at hv
  obtain ⟨h1,h2⟩:=argBest_lt (numAt ys) (ys.size-1)
  refine ⟨.int _,H,I.kept hk,⟨t,rfl⟩,q _ ?_ fun a ha=>?_⟩
  · rw [hns,numAt_eq]; exact PySem.getD_mem (by rw [List.length_map,Array.length_toList]; omega)
  · rw [hns] at ha
    obtain ⟨j,hj,rfl⟩:=mem_getD ha
    rw [List.length_map,Array.length_toList] at hj
    rw [← numAt_eq]; exact h2 j (by omega)
end
end L2
namespace VL
open PySem L2
open Classical
noncomputable section
section
variable [Tabs] {K:PySem.W.Frag} {ta tb tc:TE} {a b c:DE}
def minD:D→Option D:=ofInts fun ns=>match ns with
  | []=>none
  | x::r=>some (.int (minL x r))
theorem si_min (ha:SemB K ta a):SemI K (tCB (fun xs H Q=>∃ (p:Addr) (ns:List Int),xs=[.ref p]∧SqL K H p (ns.map V.int)∧ns≠[]∧∀ M,M∈ns→(∀ a,a∈ns→M≤a)→Q (.int M) H) (tCons ta tNil)) (dF1 minD a):=by
  refine si_f1 (fun h q=>?_) ha
  obtain ⟨ns,rfl,e⟩:=ofInts_some q
  obtain ⟨p,rfl,r⟩:=h.ints
  cases ns with
  | nil=>cases e
  | cons x t =>
    cases e
    refine ⟨rfl,fun k=>⟨p,x::t,rfl,.inl r,by simp,fun M h1 h2=>?_⟩⟩
    rw [min_uniq h1 h2 (minL_spec t x).1 (minL_spec t x).2]
    exact k
end
end
end VL
namespace VL
open PySem L2
open Classical
noncomputable section
instance (priority:=low) noTabs:Tabs:=⟨[]⟩
structure Wk where
  nx:Rho→Prop
  rt:D→Prop
  bk:Rho→Prop:=fun _=>False
  ct:Rho→Prop:=fun _=>False
@[irreducible] def Wp (s:DS) (ρ:Rho) (W:Wk):Prop:=match s ρ with
  | .nx ρ'=>W.nx ρ'
  | .rt d=>W.rt d
  | .bk ρ'=>W.bk ρ'
  | .ct ρ'=>W.ct ρ'
  | .no=>False
section
variable {s u b:DS} {ρ:Rho} {W:Wk} {i:Nat} {a e k:DE} {d:D} {c:Rho→Option Bool} {es:Rho→Option (List D)} {ds:List D} {g:DG}
theorem wp_seq (h:Wp s ρ { W with nx:=fun ρ'=>Wp u ρ' W }):Wp (sSeq s u) ρ W:=by
  unfold Wp sSeq at *
  cases e:s ρ <;> rw [e] at h <;> exact h
theorem wp_pass (h:W.nx ρ):Wp sPass ρ W:=by unfold Wp sPass; exact h
theorem wp_ret (h:a ρ=some d) (k:W.rt d):Wp (sRet a) ρ W:=by unfold Wp sRet; rw [h]; exact k
theorem wp_if {x:Bool} (h:c ρ=some x) (ht:x=true→Wp s ρ W) (hf:x=false→Wp u ρ W):Wp (sIf c s u) ρ W:=by
  unfold Wp sIf at *
  rw [h]
  cases x
  · exact hf rfl
  · exact ht rfl
theorem wp_ifp {p:Prop} {_:Decidable p} (h:c ρ=some (decide p)) (ht:p→Wp s ρ W) (hf:¬ p→Wp u ρ W):Wp (sIf c s u) ρ W:=by
  refine wp_if h (fun q=>ht (of_decide_eq_true q)) fun q=>hf (of_decide_eq_false q)
theorem wp_ifF (h:c ρ=some false) (ht:Wp u ρ W):Wp (sIf c s u) ρ W:=wp_if h (fun q=>by cases q) fun _=>ht
theorem wp_set (h:a ρ=some d) (k:W.nx (ρ.set i (.pu d))):Wp (sSet i a) ρ W:=by unfold Wp sSet; rw [h]; exact k
theorem wp_setO (h:es ρ=some ds) (hi:i < ρ.length) (k:W.nx (ρ.set i (.ol ds))):Wp (sSetO i es) ρ W:=by unfold Wp sSetO; rw [h]; simp only [if_pos hi]; exact k
theorem wp_frz (h:Wp s (frz i ρ) W):Wp (sFrz i s) ρ W:=by unfold Wp sFrz at *; exact h
theorem wp_app (h0:ρ.getD i .un=.ol ds) (h:a ρ=some d) (hl:ds.length<sizeLine) (k:W.nx (ρ.set i (.ol (ds++[d])))):Wp (sApp i a) ρ W:=by unfold Wp sApp; rw [h0]; simp only [h,if_pos hl]; exact k
theorem wp_ext {es:List D} (h0:ρ.getD i .un=.ol ds) (h:a ρ=some (.lst es)) (hl:ds.length+es.length≤sizeLine) (k:W.nx (ρ.set i (.ol (ds++es)))):Wp (sExt i a) ρ W:=by unfold Wp sExt; rw [h0]; simp only [h,if_pos hl]; exact k
theorem wp_put {n:Int} {j:Nat} (h0:ρ.getD i .un=.ol ds) (h1:a ρ=some d) (h:e ρ=some (.int n)) (hj:ixN ds.length n=some j) (k:W.nx (ρ.set i (.ol (ds.set j d)))):Wp (sPut i e a) ρ W:=by
  unfold Wp sPut; rw [h0]; simp only [h,h1,hj]; exact k
theorem wp_aug {f:Int→Int→Int} {x y:Int} (h0:dVar i ρ=some (.int x)) (h:a ρ=some (.int y)) (k:W.nx (ρ.set i (.pu (.int (f x y))))):Wp (sAug f i a) ρ W:=by
  unfold Wp sAug; rw [h0]; simp only [h]; exact k
theorem wp_for {it:Rho→Option (List D)} (h:it ρ=some ds) (I:Nat→Rho→Prop) (h0:I 0 ρ)
    (hs:∀ (j:Nat) (d:D) (ρ:Rho),ds[j]?=some d→I j ρ→∃ ρ1,g d ρ=some ρ1∧Wp b ρ1 { W with nx:=I (j+1),ct:=I (j+1),bk:=W.nx })
    (he:∀ ρ,I ds.length ρ→W.nx ρ):Wp (sFor it g b) ρ W:=by
  have key:∀ (n j:Nat) (ρ:Rho),n=ds.length-j→j≤ds.length→I j ρ→Wp (fun ρ=>forD g b (ds.drop j) ρ) ρ W:=by
    intro n
    induction n with
    | zero =>
      intro j ρ hn hj hI
      have e:j=ds.length:=by omega
      subst e
      unfold Wp
      simp only [List.drop_length,forD]
      exact he ρ hI
    | succ n ih =>
      intro j ρ hn hj hI
      have hlt:j<ds.length:=by omega
      obtain ⟨ρ1,e1,w1⟩:=hs j ds[j] ρ (List.getElem?_eq_getElem hlt) hI
      unfold Wp
      dsimp only
      rw [List.drop_eq_getElem_cons hlt]
      unfold forD
      rw [e1]
      unfold Wp at w1
      dsimp only
      cases e2:b ρ1 with
      | nx ρ2=>rw [e2] at w1; have q:=ih (j+1) ρ2 (by omega) hlt w1; unfold Wp at q; exact q
      | ct ρ2=>rw [e2] at w1; have q:=ih (j+1) ρ2 (by omega) hlt w1; unfold Wp at q; exact q
      | bk ρ2=>rw [e2] at w1; exact w1
      | rt d=>rw [e2] at w1; exact w1
      | no=>rw [e2] at w1; exact w1
  have:=key _ 0 ρ rfl (Nat.zero_le _) h0
  unfold Wp at this
  unfold Wp sFor
  rw [h]
  exact this
theorem wp_while (I:Nat→Rho→Prop) (n:Nat) (h0:I n ρ) (hs:∀ n ρ,I n ρ→∃ x,c ρ=some x∧(x=true→Wp b ρ { W with nx:=fun ρ'=>∃ m,m<n∧I m ρ',ct:=fun ρ'=>∃ m,m<n∧I m ρ',bk:=W.nx })∧(x=false→W.nx ρ)):Wp (sWhile c b) ρ W:=by
  have key:∀ n ρ,I n ρ→∃ r,whN c b (n+1) ρ=r∧r≠.no∧(match r with | .nx ρ'=>W.nx ρ' | .rt d=>W.rt d | .bk ρ'=>W.bk ρ' | .ct ρ'=>W.ct ρ' | .no=>False):=by
    intro n
    induction n using Nat.strongRecOn with
    | _ n ih =>
      intro ρ hI
      obtain ⟨x,ec,ht,hf⟩:=hs n ρ hI
      have un:whN c b (n+1) ρ=(match c ρ with | some false=>Res.nx ρ | some true=>(match b ρ with | .nx ρ'=>whN c b n ρ' | .ct ρ'=>whN c b n ρ' | .bk ρ'=>.nx ρ' | .rt d=>.rt d | .no=>.no) | none=>.no):=rfl
      rw [un,ec]
      cases x with
      | false=>exact ⟨.nx ρ,rfl,(fun z=>by cases z),hf rfl⟩
      | true =>
        have w:=ht rfl
        unfold Wp at w
        have step:∀ ρ',(∃ m,m<n∧I m ρ')→∃ r,whN c b n ρ'=r∧r≠.no∧(match r with | .nx ρ'=>W.nx ρ' | .rt d=>W.rt d | .bk ρ'=>W.bk ρ' | .ct ρ'=>W.ct ρ' | .no=>False):=by
          rintro ρ' ⟨m,hm,hI'⟩
          obtain ⟨r,e,hr,q⟩:=ih m hm ρ' hI'
          refine ⟨r,?_,hr,q⟩
          obtain ⟨k,rfl⟩:∃ k,n=m+1+k:=⟨n-m-1,by omega⟩
          rw [whN_le (by rw [e]; exact hr),e]
        cases eb:b ρ with
        | nx ρ'=>rw [eb] at w; exact step ρ' w
        | ct ρ'=>rw [eb] at w; exact step ρ' w
        | bk ρ'=>rw [eb] at w; exact ⟨.nx ρ',rfl,(fun z=>by cases z),w⟩
        | rt d=>rw [eb] at w; exact ⟨.rt d,rfl,(fun z=>by cases z),w⟩
        | no=>rw [eb] at w; exact w.elim
  obtain ⟨r,e,hr,q⟩:=key n ρ h0
  unfold Wp
  rw [sWhile_of e hr]
  exact q
end
section
variable {ρ:Rho} {a b c:DE} {i j k:Int} {d e:D} {es:Rho→Option (List D)} {ds:List D}
theorem ev_add (ha:a ρ=some (.int i)) (hb:b ρ=some (.int j)):dAdd a b ρ=some (.int (i+j)):=by unfold dAdd dII; rw [ha,hb]
theorem ev_sub (ha:a ρ=some (.int i)) (hb:b ρ=some (.int j)):dSub a b ρ=some (.int (i-j)):=by unfold dSub dII; rw [ha,hb]
theorem ev_mul (ha:a ρ=some (.int i)) (hb:b ρ=some (.int j)) (h:IntMulOk i j):dMul a b ρ=some (.int (i*j)):=by unfold dMul dII; rw [ha,hb]; exact gC_pos h
theorem ev_fdiv (ha:a ρ=some (.int i)) (hb:b ρ=some (.int j)) (h:0<j∧j.natAbs.log2<9000):dFdiv a b ρ=some (.int (i / j)):=by unfold dFdiv dII; rw [ha,hb]; exact gC_pos (C:=fun _ j=>0<j∧j.natAbs.log2<9000) h
theorem ev_mod (ha:a ρ=some (.int i)) (hb:b ρ=some (.int j)) (h:0<j):dMod a b ρ=some (.int (i % j)):=by unfold dMod dII; rw [ha,hb]; exact gC_pos (C:=fun _ j=>0<j) h
theorem ev_pow (ha:a ρ=some (.int i)) (hb:b ρ=some (.int j)) (h:CPow i j):dPow a b ρ=some (.int (i ^ j.toNat)):=by unfold dPow dII; rw [ha,hb]; exact gC_pos h
theorem ev_lt (ha:a ρ=some (.int i)) (hb:b ρ=some (.int j)):dLt a b ρ=some (.bl (decide (i<j))):=by unfold dLt dII; rw [ha,hb]
theorem ev_le (ha:a ρ=some (.int i)) (hb:b ρ=some (.int j)):dLe a b ρ=some (.bl (decide (i≤j))):=by unfold dLe dII; rw [ha,hb]
theorem ev_gt (ha:a ρ=some (.int i)) (hb:b ρ=some (.int j)):dGt a b ρ=some (.bl (decide (j<i))):=by unfold dGt dII; rw [ha,hb]
theorem ev_min2 (ha:a ρ=some (.int i)) (hb:b ρ=some (.int j)):dMin2 a b ρ=some (.int (min i j)):=by
  have e:(if j<i then j else i)=min i j:=by split <;> omega
  unfold dMin2 dII; rw [ha,hb,← e]
theorem ev_t {x:Bool} (ha:a ρ=some (.bl x)):dT a ρ=some x:=by unfold dT; rw [ha]
theorem ev_tru {x:Bool} (ha:a ρ=some d) (h:truD d=some x):dTru a ρ=some x:=by unfold dTru; rw [ha]; exact h
theorem ev_not {p:Rho→Option Bool} {x:Bool} (ha:p ρ=some x):dNot p ρ=some (!x):=by unfold dNot; rw [ha]
theorem ev_or {p q:Rho→Option Bool} {x y:Bool} (ha:p ρ=some x) (hb:x=false→q ρ=some y):dOr p q ρ=some (x || y):=by
  unfold dOr; rw [ha]; cases x
  · rw [hb rfl]; rfl
  · rfl
theorem ev_andV {x y:Bool} (ha:a ρ=some (.bl x)) (hb:x=true→b ρ=some (.bl y)):dAndV a b ρ=some (.bl (x&&y)):=by
  unfold dAndV; rw [ha]; cases x
  · rfl
  · rw [hb rfl]; rfl
theorem ev_orV {x y:Bool} (ha:a ρ=some (.bl x)) (hb:x=false→b ρ=some (.bl y)):dOrV a b ρ=some (.bl (x || y)):=by
  unfold dOrV; rw [ha]; cases x
  · rw [hb rfl]; rfl
  · rfl
theorem ev_notV {x:Bool} (ha:a ρ=some (.bl x)):dNotV a ρ=some (.bl (!x)):=by unfold dNotV; rw [ha]
theorem ev_scal (ha:a ρ=some d) (h:d.scal=true):gScal a ρ=some d:=by unfold gScal; rw [ha]; exact if_pos h
theorem ev_lst (h:es ρ=some ds):dLst es ρ=some (.lst ds):=by unfold dLst; rw [h]; rfl
theorem ev_tup (h:es ρ=some ds):dTup es ρ=some (.tup ds):=by unfold dTup; rw [h]; rfl
theorem ev_cons (h:a ρ=some d) (h2:es ρ=some ds):dCons a es ρ=some (d::ds):=by unfold dCons; rw [h,h2]
theorem ev_ix (ha:a ρ=some d) (hb:b ρ=some (.int i)) (h:ixD d i=some e):dIx a b ρ=some e:=by unfold dIx; rw [ha,hb]; exact h
theorem ev_f1 {g:D→Option D} (ha:a ρ=some d) (h:g d=some e):dF1 g a ρ=some e:=by unfold dF1; rw [ha]; exact h
theorem ev_call {F:List D→Option D} (h:es ρ=some ds) (h2:F ds=some d):dCall F es ρ=some d:=by unfold dCall; rw [h]; exact h2
theorem ev_eq {neg:Bool} (ha:a ρ=some d) (hb:b ρ=some e) (h:cmpb 20 d e=true):dEq neg a b ρ=some (.bl (if neg=true then !decide (d=e) else decide (d=e))):=by unfold dEq; rw [ha,hb]; exact if_pos h
theorem ev_eqI {neg:Bool} (ha:a ρ=some (.int i)) (hb:b ρ=some (.int j)):dEq neg a b ρ=some (.bl (if neg=true then !decide (i=j) else decide (i=j))):=by
  rw [ev_eq ha hb rfl]
  have e:decide (D.int i=D.int j)=decide (i=j):=by rw [dec_int]; rw [Bool.eq_iff_iff]; simp
  rw [e]
theorem ev_eqF (ha:a ρ=some (.int i)) (hb:b ρ=some (.int j)):dEq false a b ρ=some (.bl (decide (i=j))):=ev_eqI (neg:=false) ha hb
theorem ev_neF (ha:a ρ=some (.int i)) (hb:b ρ=some (.int j)):dEq true a b ρ=some (.bl (decide (i≠j))):=by
  rw [ev_eqI (neg:=true) ha hb,if_pos rfl]
  congr 2
  rw [Bool.eq_iff_iff]
  simp
theorem ev_eqSame {d:D} (ha:a ρ=some d) (hb:b ρ=some d) (h:cmpb 20 d d=true):dEq false a b ρ=some (.bl true):=by
  rw [ev_eq ha hb h,if_neg Bool.false_ne_true,decide_eq_true rfl]
theorem cmp_ints {n:Nat} (xs ys:List Int):cmpb (n+1) (.lst (xs.map D.int)) (.lst (ys.map D.int))=true:=by
  show (decide _ || (List.zip (xs.map D.int) (ys.map D.int)).all fun p=>cmpb n p.1 p.2)=true
  rw [Bool.or_eq_true]
  refine .inr (List.all_eq_true.mpr fun q hq=>?_)
  obtain ⟨a,b⟩:=q
  obtain ⟨h1,h2⟩:=List.of_mem_zip hq
  obtain ⟨x,_,rfl⟩:=List.mem_map.mp h1
  obtain ⟨y,_,rfl⟩:=List.mem_map.mp h2
  cases n <;> rfl
theorem ev_asL (ha:a ρ=some d) (h:lof d=some ds):asL a ρ=some ds:=by unfold asL; rw [ha]; exact h
theorem ev_rg1 (ha:a ρ=some (.int i)) (h:-(2 ^ 62)≤i∧i.toNat≤sizeLine):dRg1 a ρ=some (upL 0 i.toNat):=by unfold dRg1; rw [ha]; exact if_pos h
theorem ev_rg2 (ha:a ρ=some (.int i)) (hb:b ρ=some (.int j)) (h:-(2 ^ 62)≤i∧i<2 ^ 62∧-(2 ^ 62)≤j∧j<2 ^ 62∧(j-i).toNat≤sizeLine):dRg2 a b ρ=some (upL i (j-i).toNat):=by unfold dRg2; rw [ha,hb]; exact if_pos h
theorem ev_rep (h:es ρ=some ds) (hb:b ρ=some (.int i)) (hc:-(2 ^ 63)≤i∧i<2 ^ 63∧ds.length*i.toNat≤sizeLine):dRep es b ρ=some (List.replicate i.toNat ds).flatten:=by unfold dRep; rw [h,hb]; exact if_pos hc
theorem ev_flat (h:es ρ=some ds) (hf:flatL ds=true):gFlat es ρ=some ds:=by unfold gFlat; rw [h]; exact if_pos hf
theorem ev_lof (h:a ρ=some d) (hl:lof d=some ds):dLof a ρ=some ds:=by
  unfold dLof; rw [h]
  cases d with
  | lst xs=>exact hl
  | scr ns=>exact hl
  | _=>cases hl
theorem ev_cat {xs ys:List D} (ha:a ρ=some (.lst xs)) (hb:b ρ=some (.lst ys)) (h:xs.length+ys.length≤sizeLine):dCat a b ρ=some (xs++ys):=by unfold dCat; rw [ha,hb]; exact if_pos h
theorem ev_inI {neg:Bool} {ns:List Int} (ha:a ρ=some (.int i)) (hb:b ρ=some (.lst (ns.map D.int))):dIn neg a b ρ=some (.bl (if neg=true then !decide (i∈ns) else decide (i∈ns))):=by
  unfold dIn; rw [ha,hb]; dsimp only [inS]; rw [asInts_map]; rfl
theorem ev_comp {k:Nat} {cs:List Nat} {it:Rho→Option (List D)} {g:DG} {t:Rho→Option Bool} {el:DE} (h:it ρ=some ds) (p:D→Bool) (f:D→D)
    (hs:∀ d∈ds,∃ ρ1,g d (r0 k cs ρ)=some ρ1∧t ρ1=some (p d)∧(p d=true→el ρ1=some (f d))):dComp k cs it g t el ρ=some ((ds.filter p).map f):=by
  unfold dComp
  rw [h]
  dsimp only
  clear h
  induction ds with
  | nil=>rfl
  | cons x xs ih =>
    obtain ⟨ρ1,e1,e2,e3⟩:=hs x List.mem_cons_self
    have ih:=ih fun d hd=>hs d (List.mem_cons_of_mem _ hd)
    unfold compGo
    rw [e1]
    dsimp only
    rw [e2]
    cases hp:p x with
    | false =>
      dsimp only
      rw [ih,List.filter_cons_of_neg (by simp [hp])]
    | true =>
      dsimp only
      rw [e3 hp,ih,List.filter_cons_of_pos hp]
      rfl
theorem ev_comp0 {k:Nat} {cs:List Nat} {it:Rho→Option (List D)} {g:DG} {el:DE} (h:it ρ=some ds) (f:D→D)
    (hs:∀ d∈ds,∃ ρ1,g d (r0 k cs ρ)=some ρ1∧el ρ1=some (f d)):dComp k cs it g dTrue el ρ=some (ds.map f):=by
  have:=ev_comp (ρ:=ρ) (k:=k) (cs:=cs) (it:=it) (g:=g) (t:=dTrue) (el:=el) h (fun _=>true) f fun d hd=>let ⟨ρ1,e1,e2⟩:=hs d hd; ⟨ρ1,e1,rfl,fun _=>e2⟩
  rw [this,List.filter_eq_self.mpr fun _ _=>rfl]
theorem run_of {n:Nat} {ms:List Bool} {b:DS} {ds:List D} {P:D→Prop} (h:Wp b (stD n ms ds) { nx:=fun _=>P .non,rt:=P }):∃ d,runD n ms b ds=some d∧P d:=by
  unfold Wp at h
  unfold runD
  cases e:b (stD n ms ds) with
  | nx ρ=>rw [e] at h; exact ⟨_,rfl,h⟩
  | rt d=>rw [e] at h; exact ⟨_,rfl,h⟩
  | bk ρ=>rw [e] at h; exact h.elim
  | ct ρ=>rw [e] at h; exact h.elim
  | no=>rw [e] at h; exact h.elim
theorem run_eq {n:Nat} {ms:List Bool} {b:DS} {ds:List D} {d:D} (h:Wp b (stD n ms ds) { nx:=fun _=>D.non=d,rt:=fun x=>x=d }):runD n ms b ds=some d:=by
  obtain ⟨x,e,rfl⟩:=run_of (P:=fun x=>x=d) h
  exact e
theorem run_ofF {F:List D→Option D} {n:Nat} {ms:List Bool} {b:DS} (hF:F=runD n ms b) {ds:List D} {P:D→Prop} (h:Wp b (stD n ms ds) { nx:=fun _=>P .non,rt:=P }):∃ d,F ds=some d∧P d:=by rw [hF]; exact run_of h
theorem run_eqF {F:List D→Option D} {n:Nat} {ms:List Bool} {b:DS} (hF:F=runD n ms b) {ds:List D} {d:D} (h:Wp b (stD n ms ds) { nx:=fun _=>D.non=d,rt:=fun x=>x=d }):F ds=some d:=by rw [hF]; exact run_eq h
theorem imul {i j:Int} (h:(-(2 ^ 64)<i∧i<2 ^ 64)∨(-(2 ^ 64)<j∧j<2 ^ 64)):IntMulOk i j:=CMul.ok h
theorem ixI {ns:List Int} {i:Int} (h0:0≤i) (h1:i<ns.length):ixD (.lst (ns.map D.int)) i=some (.int (ns.getD i.toNat 0)):=by
  show atI (ns.map D.int) i=_
  unfold atI ixN
  rw [if_pos h0,List.length_map,if_pos h1]
  show (ns.map D.int)[i.toNat]?=_
  have hi:i.toNat<ns.length:=by omega
  rw [List.getElem?_map,List.getElem?_eq_getElem hi,List.getD_eq_getElem?_getD,List.getElem?_eq_getElem hi]
  rfl
theorem ixS {ns:List Int} {i:Int} (h0:0≤i) (h1:i<ns.length):ixD (.scr ns) i=some (.int (ns.getD i.toNat 0)):=by
  show (atI ns i).map D.int=_
  unfold atI ixN
  rw [if_pos h0,if_pos h1]
  have hi:i.toNat<ns.length:=by omega
  show (ns[i.toNat]?).map D.int=_
  rw [List.getElem?_eq_getElem hi,List.getD_eq_getElem?_getD,List.getElem?_eq_getElem hi]
  rfl
theorem ixN_in {n:Nat} {i:Int} (h0:0≤i) (h1:i<n):ixN n i=some i.toNat:=by unfold ixN; rw [if_pos h0,if_pos h1]
end
end
end VL
namespace L2
open PySem PySem.Spec PyProof.Rows
section
variable {prog:Program} {w:World} {A:Around} {R:Result→Shared→Prop} {I:Addr} {fp wr:List Addr} {n:Nat} {P:Nat→Value→Prop} {St:Nat→Heap→Prop} {kw:List (Str×Value)}
end
section
variable {prog:Program} {w:World} {A:Around} {E:Value→Shared→Prop} {s:Shared}
end
section
variable {X:Cx}
end
section
variable {X:Cx} {K:PySem.W.Frag}
theorem call_maxDK (hc:X.calm=true) (h:X.K=K):CallKR X (.builtin "max") ["default"] (fun xs zs H Q=>∃ (p:Addr) (ns:List Int) (d:V),xs=[.ref p]∧zs=[d]∧SqL K H p (ns.map V.int)∧(ns=[]→Q d H)∧∀ M,M∈ns→(∀ a,a∈ns→a≤M)→Q (.int M) H):=by subst h; exact call_maxD hc
end
end L2
namespace VL
open PySem L2
open Classical
noncomputable section
section
variable [Tabs] {K:PySem.W.Frag} {ta tb tc:TE} {a b c:DE}
noncomputable def dMxD (g:Int→List Int→Int) (a b:DE):DE:=fun ρ=>match a ρ with
  | some (.lst ds)=>(match b ρ with
    | some d=>(match asInts ds with
      | some []=>some d
      | some (x::r)=>some (.int (g x r))
      | none=>none)
    | none=>none)
  | _=>none
theorem dMxD_some {g:Int→List Int→Int} {ρ:Rho} {d:D} (h:dMxD g a b ρ=some d):∃ ns e,a ρ=some (.lst (ns.map D.int))∧b ρ=some e∧((ns=[]∧d=e)∨∃ x r,ns=x::r∧d=.int (g x r)):=by
  unfold dMxD at h
  split at h
  · rename_i ds e1
    split at h
    · rename_i e e2
      cases q:asInts ds with
      | none=>rw [q] at h; cases h
      | some ns =>
        rw [q] at h
        rw [asInts_some q] at e1
        cases ns with
        | nil=>cases h; exact ⟨[],_,e1,e2,.inl ⟨rfl,rfl⟩⟩
        | cons x r=>cases h; exact ⟨x::r,_,e1,e2,.inr ⟨x,r,rfl,rfl⟩⟩
    · cases h
  · cases h
theorem si_maxD (ha:SemB K ta a) (hb:SemI K tb b):SemI K (tCBK (fun xs zs H Q=>∃ (p:Addr) (ns:List Int) (d:V),xs=[.ref p]∧zs=[d]∧SqL K H p (ns.map V.int)∧(ns=[]→Q d H)∧∀ M,M∈ns→(∀ a,a∈ns→a≤M)→Q (.int M) H) (tCons ta tNil) (tCons tb tNil)) (dMxD maxL a b):=fun {B Z os ρ σ H Q d} f q k=>by
  obtain ⟨ns,e,e1,e2,h⟩:=dMxD_some q
  refine ha f e1 fun v H1 s1 i1=>hb (f.grow s1) e2 fun u H2 s2 i2=>?_
  obtain ⟨p,rfl,rd⟩:=(i1.same s2).ints
  have s12:=s1.trans s2
  refine ⟨p,ns,u,rfl,rfl,.inl rd,fun z=>?_,fun M h1 h2=>?_⟩
  · rcases h with ⟨_,rfl⟩ | ⟨x,r,rfl,rfl⟩
    · exact k _ _ s12 i2
    · cases z
  · rcases h with ⟨rfl,_⟩ | ⟨x,r,rfl,rfl⟩
    · cases h1
    · rw [max_uniq h1 h2 (maxL_spec r x).1 (maxL_spec r x).2]
      exact k _ _ s12 (.int _)
theorem ev_mxD0 {g:Int→List Int→Int} {ρ:Rho} {d:D} (ha:a ρ=some (.lst [])) (hb:b ρ=some d):dMxD g a b ρ=some d:=by unfold dMxD; rw [ha,hb]; rfl
theorem ev_mxD {g:Int→List Int→Int} {ρ:Rho} {d:D} {x:Int} {r:List Int} (ha:a ρ=some (.lst ((x::r).map D.int))) (hb:b ρ=some d):dMxD g a b ρ=some (.int (g x r)):=by
  unfold dMxD; rw [ha,hb]; dsimp only; rw [asInts_map]
theorem fdok {j:Int} (h0:0<j) (h1:j<2 ^ 64):0<j∧j.natAbs.log2<9000:=by
  refine ⟨h0,(Nat.log2_lt (by omega)).mpr (Nat.lt_of_lt_of_le (m:=2 ^ 64) (by omega) (Nat.pow_le_pow_right (by decide) (by decide)))⟩
theorem ev_compA {α:Type} {ρ:Rho} {k:Nat} {cs:List Nat} {it:Rho→Option (List D)} {g:DG} {t:Rho→Option Bool} {el:DE} (emb:α→D) {xs:List α} (h:it ρ=some (xs.map emb)) (p:α→Bool) (f:α→D)
    (hs:∀ x∈xs,∃ ρ1,g (emb x) (r0 k cs ρ)=some ρ1∧t ρ1=some (p x)∧(p x=true→el ρ1=some (f x))):dComp k cs it g t el ρ=some ((xs.filter p).map f):=by
  unfold dComp
  rw [h]
  dsimp only
  clear h
  induction xs with
  | nil=>rfl
  | cons x r ih =>
    obtain ⟨ρ1,e1,e2,e3⟩:=hs x List.mem_cons_self
    have ih:=ih fun d hd=>hs d (List.mem_cons_of_mem _ hd)
    rw [List.map_cons]
    unfold compGo
    rw [e1]
    dsimp only
    rw [e2]
    cases hp:p x with
    | false =>
      dsimp only
      rw [ih,List.filter_cons_of_neg (by simp [hp])]
    | true =>
      dsimp only
      rw [e3 hp,ih,List.filter_cons_of_pos hp]
      rfl
theorem ev_compA0 {α:Type} {ρ:Rho} {k:Nat} {cs:List Nat} {it:Rho→Option (List D)} {g:DG} {el:DE} (emb:α→D) {xs:List α} (h:it ρ=some (xs.map emb)) (f:α→D)
    (hs:∀ x∈xs,∃ ρ1,g (emb x) (r0 k cs ρ)=some ρ1∧el ρ1=some (f x)):dComp k cs it g dTrue el ρ=some (xs.map f):=by
  have:=ev_compA (ρ:=ρ) (k:=k) (cs:=cs) (it:=it) (g:=g) (t:=dTrue) (el:=el) emb h (fun _=>true) f fun d hd=>let ⟨ρ1,e1,e2⟩:=hs d hd; ⟨ρ1,e1,rfl,fun _=>e2⟩
  rw [this,List.filter_eq_self.mpr fun _ _=>rfl]
theorem cmp_lst {n:Nat} {xs ys:List D} (h:∀ x∈xs,∀ y∈ys,cmpb n x y=true):cmpb (n+1) (.lst xs) (.lst ys)=true:=by
  show (decide _ || (List.zip xs ys).all fun p=>cmpb n p.1 p.2)=true
  rw [Bool.or_eq_true]
  refine .inr (List.all_eq_true.mpr fun q hq=>?_)
  obtain ⟨a,b⟩:=q
  obtain ⟨h1,h2⟩:=List.of_mem_zip hq
  exact h a h1 b h2
theorem cmp_rows {n:Nat} (T S:List (List Int)):cmpb (n+2) (.lst (T.map fun r=>.lst (r.map D.int))) (.lst (S.map fun r=>.lst (r.map D.int)))=true:=by
  refine cmp_lst fun x hx y hy=>?_
  obtain ⟨a,_,rfl⟩:=List.mem_map.mp hx
  obtain ⟨b,_,rfl⟩:=List.mem_map.mp hy
  exact cmp_ints a b
theorem sumD_ints (ns:List Int):sumD (.lst (ns.map D.int))=some (.int ns.sum):=ofInts_lst _ ns
theorem maxD_cons (x:Int) (r:List Int):maxD (.lst ((x::r).map D.int))=some (.int (maxL x r)):=ofInts_lst _ (x::r)
end
end
end VL
namespace L2
end L2
namespace L2
open PySem PySem.Spec PyProof.Rows
open VL (s0)
theorem newEnv_around {M:Model} {A:Around} {E:Value→Shared→Prop} {s:Shared} {scope:Scope} {globals:Addr} {cl:List (Str×Addr)} {qual:Str} {outer:Env} {Q:Env→Shared→Prop}
    (hQ:Q { scope,locals:=s.heap.objs.size,globals,cells:=cellsFrom (s.heap.objs.size+1) scope.names cl,qual,func:=none,code:=outer.code,frame:=outer.frame,builtins:=outer.builtins } { s with heap:=pushCells (s.heap.push { cls:=.type "dict", data:=.dict #[] }) scope.names }) :
    wpAny M A (newFunctionEnv scope globals cl [] qual none .none (some outer)) Q E s:=by
  simp only [newFunctionEnv,Option.isSome_some,if_true]
  refine wpAny_bind (wpAny_alloc ?_)
  refine wpAny_bind (wpAny_layCells _ (fun name kind cells=>by cases hkc:kind==NameKind.cell <;> simp [hkc]) _ _ _ _ ?_)
  rw [show ({ s with heap:=s.heap.push { cls:=.type "dict", data:=.dict #[] } }:Shared).heap.objs.size=s.heap.objs.size+1 from Heap.size_push ..]
  rw [List.forIn_nil]
  exact wpAny_bind (wpAny_pure (wpAny_pure hQ))
theorem cells_split:∀ (names:List (Str×NameKind)) (h:Heap) (acc:List (Str×Addr)) (x:Str) (c:Addr),(cellsFrom h.objs.size names acc).lookup x=some c→((pushCells h names).IsCell c none∧h.objs.size≤c)∨acc.lookup x=some c
  | [],_,_,_,_,e=>.inr e
  | (name,kind)::r,h,acc,x,c,e=>by
    unfold cellsFrom at e
    unfold pushCells
    split at e
    · rename_i hk
      rw [if_pos hk]
      rcases cells_split r (h.push { cls:=.type "cell", data:=.cell none }) ((name,h.objs.size)::acc) x c (by rw [Heap.size_push]; exact e) with ⟨q1,q2⟩ | q
      · rw [Heap.size_push] at q2
        exact .inl ⟨q1,by omega⟩
      · rw [List.lookup_cons] at q
        cases hb:x==name with
        | true =>
          rw [hb] at q
          cases q
          exact .inl ⟨⟨_,pushCells_keeps _ _ _ _ (Heap.get?_push_size _ rfl),rfl⟩,Nat.le_refl _⟩
        | false=>rw [hb] at q; exact .inr q
    · rename_i hk
      rw [if_neg hk]
      exact cells_split r h acc x c e
theorem cells_inj:∀ (names:List (Str×NameKind)) (n:Nat) (acc:List (Str×Addr)),(∀ x y c,acc.lookup x=some c→acc.lookup y=some c→x=y)→(∀ x c,acc.lookup x=some c→c<n)→∀ x y c,(cellsFrom n names acc).lookup x=some c→(cellsFrom n names acc).lookup y=some c→x=y
  | [],_,_,hi,_=>hi
  | (name,kind)::r,n,acc,hi,hb=>by
    unfold cellsFrom
    split
    · refine cells_inj r (n+1) ((name,n)::acc) (fun x y c h1 h2=>?_) fun x c h=>?_
      · rw [List.lookup_cons] at h1 h2
        cases e1:x==name with
        | true =>
          cases e2:y==name with
          | true=>rw [eq_of_beq e1,eq_of_beq e2]
          | false =>
            rw [e1] at h1; rw [e2] at h2
            cases h1
            exact absurd (hb _ _ h2) (Nat.lt_irrefl _)
        | false =>
          cases e2:y==name with
          | true =>
            rw [e1] at h1; rw [e2] at h2
            cases h2
            exact absurd (hb _ _ h1) (Nat.lt_irrefl _)
          | false=>rw [e1] at h1; rw [e2] at h2; exact hi x y c h1 h2
      · rw [List.lookup_cons] at h
        cases e1:x==name with
        | true=>rw [e1] at h; cases h; exact Nat.lt_succ_self _
        | false=>rw [e1] at h; exact Nat.lt_succ_of_lt (hb _ _ h)
    · exact cells_inj r n acc hi hb
theorem cells_out:∀ (names:List (Str×NameKind)) (n:Nat) (acc:List (Str×Addr)) (x:Str),(names.all fun y=>!(y.2==.cell) || !(y.1==x))=true→(cellsFrom n names acc).lookup x=acc.lookup x
  | [],_,_,_,_=>rfl
  | (name,kind)::r,n,acc,x,h=>by
    have h:((!(kind==.cell) || !(name==x))&&r.all fun y=>!(y.2==.cell) || !(y.1==x))=true:=h
    obtain ⟨h1,h2⟩:=(Bool.and_eq_true _ _).mp h
    unfold cellsFrom
    split
    · rename_i hk
      rw [cells_out r _ _ x h2,List.lookup_cons]
      have:(x==name)=false:=by
        rw [hk] at h1
        have h1:(name==x)=false:=by simpa using h1
        rw [beq_eq_false_iff_ne] at h1 ⊢
        exact fun z=>h1 z.symm
      rw [this]
    · exact cells_out r _ _ x h2
def compCxC (X:Cx) (N':List Str) (scope:Scope) (cl:List (Str×Addr)) (C:Addr) (s3:Shared) (H3:Hp) (fp:List Addr) (pins:List (Addr×Obj)):Cx :=
  { X with N:=N',s₀:=s3,H₀:=H3,env:=compEnvC scope (cellsFrom (C+1) scope.names cl) C X.env,outer:=X.stack,stack:=X.stack,ex:=fp,fn:=fun x=>scope.names.lookup x==some .cell,pn:=X.pn++pins,xe:=fun _ _=>False }
structure FreesC (X:Cx) (N':List Str) (scope:Scope) (cl:List (Str×Addr)) (σ σ0:St):Prop where
  sub:∀ x c,cl.lookup x=some c→X.env.cells.lookup x=some c
  vals:∀ (j:Nat) (x:Str) (v:V),N'[j]?=some x→σ0[j]?=some (some v)→∃ (i:Nat) (c:Addr),X.N[i]?=some x∧σ[i]?=some (some v)∧Vis X.env.scope x∧X.env.kindOf x≠some .local∧cl.lookup x=some c ∧
    ((relabel scope X.env).names.lookup x=some .cell∨(relabel scope X.env).names.lookup x=some .free)
  vout:∀ (j:Nat) (x:Str) (v:V),N'[j]?=some x→σ0[j]?=some (some v)→(scope.names.all fun y=>!(y.2==.cell) || !(y.1==x))=true
  has:∀ x,((relabel scope X.env).names.lookup x=some .cell∨(relabel scope X.env).names.lookup x=some .free)→scope.names.lookup x=some .cell∨(cl.lookup x).isSome=true
  out:∀ x c,(scope.names.lookup x==some .cell)=true→¬ cl.lookup x=some c
  len:σ0.length=N'.length
section
variable {X:Cx} {tg elt iter:Expr} {ifs:List Expr} {scope:Scope} {cl:List (Str×Addr)} {N':List Str} {σ0:St→St} {g:TG} {tt:TT} {te:TE}
theorem comp_blockC {pos:Pos} {pins:List (Addr×Obj)} {σ:St} {H1:Hp} {s2:Shared} {it:Addr} {fp:List Addr} {tn:Nat→Heap→Prop} {J:It} {Q:VK} {RR:Value→Addr→Result→Shared→Prop}
    (hc:X.calm=true) (hkind:scope.kind=.function)
    (I:Inv X pins σ H1 s2) (T:Turn X.prog X.w X.K tg J fp it tn) (st:tn 0 s2.heap) (hfp:∀ b∈fp,FpOk X pins H1 b) (fr:FreesC X N' scope cl σ (σ0 σ)) (hk:Keepg g (σ0 σ))
    (hg:∀ C s3 H3 fp pins,PG (compCxC X N' scope cl C s3 H3 fp pins) tg g)
    (ht:∀ C s3 H3 fp pins (pl:List (Addr×Obj)) (s:Shared) (σ:St) (H:Hp) (Q:Bool→Hp→Prop),Inv (compCxC X N' scope cl C s3 H3 fp pins) pl σ H s→tt σ H Q →
      wpAny (model X.prog X.w) X.A (forIn ifs true fun c r=>if r=true then do let ok ← isTrue c (compEnvC scope (cellsFrom (C+1) scope.names cl) C X.env) (eval c (compEnvC scope (cellsFrom (C+1) scope.names cl) C X.env)); pure (ForInStep.yield ok) else pure (ForInStep.yield r)) (TP (compCxC X N' scope cl C s3 H3 fp pins) pl σ Q) (fun _ _=>False) s)
    (he:∀ C s3 H3 fp pins,PE (compCxC X N' scope cl C s3 H3 fp pins) elt te) (hw:compW J g tt te (σ0 σ) H1 Q)
    (hRR:∀ D C s' H' m,Inv X pins σ H' s'→s'.heap.Ns C m→H' C=none→C≠X.env.locals→X.s₀.heap.objs.size≤C→(∀ x c,X.env.cells.lookup x=some c→c≠C)→(∀ p∈X.pn++pins,p.1≠C)→Q (.ref D) H'→RR (.ref D) C (.ok .next) s') :
    wpAny (model X.prog X.w) X.A (newList []) (fun acc s₃=>wpAny (model X.prog X.w) X.A (newFunctionEnv scope X.env.globals cl [] X.env.qual none .none (some X.env)) (fun cenv s₄ =>
      codeAny (model X.prog X.w) X.A (.compStart (.ListComp elt [⟨tg,iter,ifs,0⟩] scope pos) 0 (.ref it) acc { cenv with scope:=relabel scope X.env }) (RR acc cenv.locals) s₄) X.xe s₃) X.xe s2:=by
  refine wpAny_newObj_type (hd:=by size_fits) (newEnv_around ?_)
  dsimp only
  have I3:Inv X pins σ (upd H1 s2.heap.objs.size (.lst [])) { s2 with heap:=s2.heap.push { cls:=.type "list", dict:=none,data:=.seq ([]:List Value).toArray } }:=I.lnew (t':=s2.toks) (its:=[]) (ys:=[]) .nil (Nat.zero_le _)
  obtain ⟨W,⟨m0,w0⟩,turn⟩:=hw s2.heap.objs.size I.fresh
  have hfpo:=T.obj 0 _ st
  have fpl:∀ b∈fp,b<s2.heap.objs.size:=fun b hb=>by
    obtain ⟨o,e,_⟩:=hfpo b hb
    exact Heap.lt_size e
  have fD:∀ b∈fp,upd H1 s2.heap.objs.size (.lst []) b=none:=fun b hb=>by
    rw [upd_ne (Nat.ne_of_lt (fpl b hb))]
    exact (hfp b hb).1
  generalize hs3:({ s2 with heap:=s2.heap.push { cls:=.type "list", dict:=none,data:=.seq ([]:List Value).toArray } }:Shared)=s3 at I3
  have es3:s3.heap=s2.heap.push { cls:=.type "list", dict:=none,data:=.seq ([]:List Value).toArray }:=by rw [← hs3]
  have st3:tn 0 s3.heap:=T.keep _ _ _ st fun b hb o e=>by rw [es3]; exact Heap.get?_push_of_some _ e
  rw [← es3]
  have sz3:s2.heap.objs.size<s3.heap.objs.size:=by rw [es3,Heap.size_push]; exact Nat.lt_succ_self _
  generalize upd H1 s2.heap.objs.size (.lst [])=H3 at I3 fD w0
  have hns₁:(pushCells (s3.heap.push { cls:=.type "dict", data:=.dict #[] }) scope.names).Ns s3.heap.objs.size (fun _=>none):=(Heap.Ns.new s3.heap (.type "dict")).keeps (pushCells_keeps _ _)
  have old:∀ b o,s3.heap.get? b=some o→(pushCells (s3.heap.push { cls:=.type "dict", data:=.dict #[] }) scope.names).get? b=some o:=fun b o e=>pushCells_keeps _ _ b o (Heap.get?_push_of_some _ e)
  have cnew:=fun x c (e:(cellsFrom (s3.heap.objs.size+1) scope.names cl).lookup x=some c)=>cells_split scope.names (s3.heap.push { cls:=.type "dict", data:=.dict #[] }) cl x c (by rw [Heap.size_push]; exact e)
  rw [Heap.size_push] at cnew
  have below:∀ x c,cl.lookup x=some c→c<s3.heap.objs.size:=fun x c e=>by
    obtain ⟨v,o,ho,_⟩:=I3.cell x c (fr.sub x c e)
    exact Heap.lt_size ho
  generalize pushCells (s3.heap.push { cls:=.type "dict", data:=.dict #[] }) scope.names=h₁ at hns₁ old cnew
  have fpl3:∀ b∈fp,b<s3.heap.objs.size:=fun b hb=>Nat.lt_trans (fpl b hb) sz3
  have stk:∀ b∈fp,b∉frs X.stack:=fun b hb z=>by
    rcases List.mem_cons.mp (I3.stkSub b z) with e | e
    · exact (hfp b hb).2.1 e
    · exact (hfp b hb).2.2.1 e
  have ok:(compCxC X N' scope cl s3.heap.objs.size s3 H3 fp pins).Ok:=by
    refine ⟨I3.ok.mod,hkind,I3.ok.glob,I3.ok.blt,Nat.le_refl _,cells_inj scope.names _ cl (fun x y c h1 h2=>I3.ok.inj x y c (fr.sub x c h1) (fr.sub y c h2)) (fun x c e=>Nat.lt_succ_of_lt (below x c e)),fun x h=>?has,fun x c h e=>?cab,I3.ok.hd,I3.ok.frames,.inl rfl,
      fun b hb=>⟨Nat.ne_of_lt (fpl3 b hb),fun x c e=>?exf⟩,I3.bs,Nat.le_trans I3.ok.bsz I3.sz,fun b o e hb=>?noex,fun b hb=>stk b hb,I3.stack,I3.stkFree⟩
    case has=>exact Option.isSome_iff_exists.mp (PySem.W.cellsFrom_some scope.names _ cl (fr.has x h))
    case cab =>
      rcases cnew x c e with ⟨_,q⟩ | q
      · exact Nat.le_trans (Nat.le_succ _) q
      · exact absurd q (fr.out x c h)
    case exf =>
      rcases cnew x c e with ⟨_,q⟩ | q
      · intro z
        have l1:=fpl3 b hb
        rw [← z] at l1
        exact absurd (Nat.lt_of_lt_of_le l1 (Nat.le_trans (Nat.le_succ _) q)) (Nat.lt_irrefl _)
      · exact (hfp b hb).2.2.2.2.1 x c (fr.sub x c q)
    case noex =>
      rcases (hfp b hb).2.2.2.1 with z | z
      · exact I3.ok.noex b o e z
      · have l1:b<X.base.objs.size:=Heap.lt_size e
        have l2:X.base.objs.size≤X.s₀.heap.objs.size:=I3.ok.bsz
        have l3:X.s₀.heap.objs.size≤b:=z
        exact absurd (Nat.lt_of_lt_of_le l1 (Nat.le_trans l2 l3)) (Nat.lt_irrefl _)
  have lt3:X.env.locals<s3.heap.objs.size:=I3.lt
  have start:Inv (compCxC X N' scope cl s3.heap.objs.size s3 H3 fp pins) [] (σ0 σ) H3 { s3 with heap:=h₁ }:=by
    refine ⟨ok,rfl,I3.bare,Un.kept old,⟨_,hns₁,fun j x v e1 e2 _=>?_⟩,fun x c e=>?_,I3.hok.fresh (Nat.le_refl _),fun x c e=>?fc,fun p hp=>?_,I3.hok.kept old,fr.len⟩
    case fc =>
      rcases cnew x c e with ⟨_,q⟩ | q
      · exact I3.hok.fresh (by omega)
      · exact I3.freeC x c (fr.sub x c q)
    · obtain ⟨i,c,q1,q2,q3,q4,q5,q6⟩:=fr.vals j x v e1 e2
      obtain ⟨m,hn,hl⟩:=I3.loc
      obtain ⟨u,r,l⟩:=hl i x v q1 q2 q3
      refine ⟨u,r,.inr ⟨q6,c,(cells_out scope.names _ cl x (fr.vout j x v e1 e2)).trans q5,?_⟩⟩
      rcases l with ⟨k,_⟩ | ⟨_,c',e',z⟩
      · exact absurd k q4
      · rw [fr.sub x c q5] at e'
        cases e'
        obtain ⟨o,ho,hd⟩:=z
        exact ⟨o,old _ _ ho,hd⟩
    · rcases cnew x c e with ⟨q,_⟩ | q
      · exact ⟨_,q⟩
      · obtain ⟨v,o,ho,hd⟩:=I3.cell x c (fr.sub x c q)
        exact ⟨v,o,old _ _ ho,hd⟩
    · have hp':p∈X.pn++pins:=by simpa [compCxC] using hp
      obtain ⟨e,n,ne,nf,d⟩:=I3.pin p hp'
      refine ⟨old _ _ e,n,Nat.ne_of_lt (Heap.lt_size e),fun z=>?_,d⟩
      rcases List.mem_cons.mp (I3.stkSub p.1 z) with q | q
      · exact ne q
      · exact nf q
  have hst₁:tn 0 h₁:=T.keep _ _ _ st3 fun b _ o e=>old b o e
  have fpok:∀ {H':Hp},(∀ b∈fp,H' b=none)→∀ b∈fp,FpOk (compCxC X N' scope cl s3.heap.objs.size s3 H3 fp pins) [] H' b:=fun {H'} hn b hb =>
    ⟨hn b hb,Nat.ne_of_lt (fpl3 b hb),stk b hb,.inl hb,fun x c e=>by
      rcases cnew x c e with ⟨_,q⟩ | q
      · intro z
        have l1:=fpl3 b hb
        rw [← z] at l1
        exact absurd (Nat.lt_of_lt_of_le l1 (Nat.le_trans (Nat.le_succ _) q)) (Nat.lt_irrefl _)
      · exact (hfp b hb).2.2.2.2.1 x c (fr.sub x c q),fun p hp=>(hfp b hb).2.2.2.2.2 p (by simpa [compCxC] using hp)⟩
  have loop:codeAny (model X.prog X.w) X.A (.compLoop (.ListComp elt [⟨tg,iter,ifs,0⟩] scope pos) 0 (.ref it) (.ref s2.heap.objs.size) (compEnvC scope (cellsFrom (s3.heap.objs.size+1) scope.names cl) s3.heap.objs.size X.env)) (RR (.ref s2.heap.objs.size) s3.heap.objs.size) { s3 with heap:=h₁ }:=by
    refine compLoop_gen (fun n s'=>∃ i ys H',Inv (compCxC X N' scope cl s3.heap.objs.size s3 H3 fp pins) [] (σ0 σ) H' s'∧tn i s'.heap∧(∀ b∈fp,H' b=none)∧W i n ys H') ?_ m0 ⟨0,[],H3,start,hst₁,fD,w0⟩
    rintro n s4 ⟨i,ys,H4,I4,st4,fr4,w4⟩
    rcases turn i n ys H4 w4 with ⟨stop,eD,q⟩ | ⟨go,step⟩
    · refine thn (T.done (compCxC X N' scope cl s3.heap.objs.size s3 H3 fp pins) rfl rfl rfl hc i [] s4 _ H4 _ I4 (fpok fr4) st4 stop) fun r s5 ⟨hr,I5⟩=>?_
      subst hr
      obtain ⟨m5,n5,_⟩:=I5.loc
      have J5:Inv X pins σ H4 s5:=I3.call' I5.os I5.base I5.hok I5.bare fun b hb=>⟨(hfp b hb).2.2.2.1,(hfp b hb).2.1,(hfp b hb).2.2.2.2.1,(hfp b hb).2.2.2.2.2⟩
      exact hRR _ _ s5 H4 m5 J5 n5 I5.free (Nat.ne_of_gt lt3) I3.sz (fun x c e z=>by
        obtain ⟨v,o,ho,_⟩:=I3.cell x c e
        exact absurd (Heap.lt_size ho) (by rw [z]; exact Nat.lt_irrefl _)) (fun p hp z=>by
        have e:=(I3.pin p hp).1
        exact absurd (Heap.lt_size e) (by rw [z]; exact Nat.lt_irrefl _)) q
    · refine thn (T.item (compCxC X N' scope cl s3.heap.objs.size s3 H3 fp pins) rfl rfl rfl hc i [] s4 _ H4 _ I4 (fpok fr4) st4 go) fun r s5 ⟨u,hr,h5⟩=>?_
      subst hr
      refine thn h5 fun _ s6 ⟨x,H6,I6,r6,y6,st6,fr6⟩=>?_
      have I6':=I6.pinned (fpok fr6) (T.obj _ _ st6)
      refine thn (hg _ _ _ _ _ _ s6 _ H6 x u _ I6' r6 (hk _ _ _ (step x H6 y6))) fun _ s7 ⟨σ7,H7,I7,q7,l7,k7⟩=>?_
      have again:∀ {s8:Shared} {H8:Hp} {m:Nat} {zs:List V},Inv (compCxC X N' scope cl s3.heap.objs.size s3 H3 fp pins) ([]++pinsAt fp s6.heap) σ7 H8 s8→m<n→W (i+1) m zs H8 →
          ∃ m,m<n∧∃ i ys H',Inv (compCxC X N' scope cl s3.heap.objs.size s3 H3 fp pins) [] (σ0 σ) H' s8∧tn i s8.heap∧(∀ b∈fp,H' b=none)∧W i m ys H':=fun {s8 H8 m zs} I8 hm w8=>by
        refine ⟨m,hm,i+1,zs,H8,(Inv.unpinned I8).weak l7.symm k7,T.keep _ _ _ st6 fun b hb o e=>(I8.pin (b,o) (List.mem_append_right _ (List.mem_append_right _ (mem_pinsAt hb e)))).1,fun b hb=>?_,w8⟩
        obtain ⟨o,e,d⟩:=T.obj _ _ st6 b hb
        exact (I8.pin (b,o) (List.mem_append_right _ (List.mem_append_right _ (mem_pinsAt hb e)))).2.1
      refine thn (ht _ _ _ _ _ _ s7 σ7 H7 _ I7 q7) fun c s8 ⟨H8,I8,q8⟩=>?_
      cases c with
      | false =>
        rw [if_neg Bool.false_ne_true] at q8 ⊢
        obtain ⟨m',hm,w8⟩:=q8
        exact again I8 hm w8
      | true =>
        rw [if_pos rfl] at q8 ⊢
        refine thn (he _ _ _ _ _ _ s8 σ7 H8 _ I8 q8) fun v s9 ⟨y,H9,I9,r9,e9,z9,m',hm,w9⟩=>?_
        exact thn (mt_append _ s9 σ7 H9 (.ref s2.heap.objs.size) [y] (.ref s2.heap.objs.size) [v] (fun _ H'=>H'=upd H9 s2.heap.objs.size (.lst (ys++[y]))) I9 rfl (.cons r9 .nil) ⟨_,ys,y,rfl,rfl,e9,z9,rfl⟩)
          fun _ s10 ⟨_,H10,I10,_,e10⟩=>by subst e10; exact again I10 hm w9
  subst hs3
  exact codeAny_compStart_list loop (T.self _ 0 _ _ _ hst₁ loop)
variable {pos:Pos} {wi:TI}
theorem pe_compGC (hc:X.calm=true) (hi:PI X tg iter wi) (fr:∀ σ:St,σ.length=X.N.length→FreesC X N' scope cl σ (σ0 σ)) (hk:∀ σ,Keepg g (σ0 σ))
    (hg:∀ C s3 H3 fp pins,PG (compCxC X N' scope cl C s3 H3 fp pins) tg g)
    (ht:∀ C s3 H3 fp pins (pl:List (Addr×Obj)) (s:Shared) (σ:St) (H:Hp) (Q:Bool→Hp→Prop),Inv (compCxC X N' scope cl C s3 H3 fp pins) pl σ H s→tt σ H Q →
      wpAny (model X.prog X.w) X.A (forIn ifs true fun c r=>if r=true then do let ok ← isTrue c (compEnvC scope (cellsFrom (C+1) scope.names cl) C X.env) (eval c (compEnvC scope (cellsFrom (C+1) scope.names cl) C X.env)); pure (ForInStep.yield ok) else pure (ForInStep.yield r)) (TP (compCxC X N' scope cl C s3 H3 fp pins) pl σ Q) (fun _ _=>False) s)
    (he:∀ C s3 H3 fp pins,PE (compCxC X N' scope cl C s3 H3 fp pins) elt te)
    (hclos:closureFor scope X.env=pure cl) (hkind:scope.kind=.function) (hnames:∀ y∈scope.names,y.2=.local→scope.names.lookup y.1=some .local)
    (hs:∀ x,foldedSetIterable iter X.env x=pure x):PE X (.ListComp elt [⟨tg,iter,ifs,0⟩] scope pos) (tComp wi g tt te σ0):=by
  intro pins s σ H Q I h
  rw [eval_ListComp]
  refine wpAny_comprehension_free (use:=none) rfl hs hclos hkind hnames (thn (hi pins s σ H _ I h) fun v s1 h1=>thn h1 fun itv s2 h2=>?_)
  obtain ⟨it,fp,tn,J,H2,e,I2,T,st2,f2,q⟩:=h2
  subst e
  refine comp_blockC (RR:=fun acc C=>compPost (model X.prog X.w) X.A X.xe none (EP X pins σ Q) acc C) hc hkind I2 T st2 f2 (fr σ I.len) (hk σ) hg ht he q ?_
  intro D C s' H' m I' hn hC h1 h2 h3 h4 q'
  refine ⟨m,hn,fun h'' hs''=>⟨.ref D,H',?_,rfl,q'⟩⟩
  exact I'.turned (t':=s'.toks) (fun b o hb e=>hs''.extBut b o hb e) hC h1 (.inr h2) h3 h4
theorem ps_setCGC {i:Nat} {x:Str} {pos' spos:Pos} (hN:X.N.Nodup) (hi':X.N[i]?=some x) (hx:Loc X.env.scope x) (hf:X.fn x=true∨X.env.scope.names.lookup x=some .local)
    (hc:X.calm=true) (hi:PI X tg iter wi) (fr:∀ σ:St,σ.length=X.N.length→FreesC X N' scope cl σ (σ0 σ)) (hk:∀ σ,Keepg g (σ0 σ))
    (hg:∀ C s3 H3 fp pins,PG (compCxC X N' scope cl C s3 H3 fp pins) tg g)
    (ht:∀ C s3 H3 fp pins (pl:List (Addr×Obj)) (s:Shared) (σ:St) (H:Hp) (Q:Bool→Hp→Prop),Inv (compCxC X N' scope cl C s3 H3 fp pins) pl σ H s→tt σ H Q →
      wpAny (model X.prog X.w) X.A (forIn ifs true fun c r=>if r=true then do let ok ← isTrue c (compEnvC scope (cellsFrom (C+1) scope.names cl) C X.env) (eval c (compEnvC scope (cellsFrom (C+1) scope.names cl) C X.env)); pure (ForInStep.yield ok) else pure (ForInStep.yield r)) (TP (compCxC X N' scope cl C s3 H3 fp pins) pl σ Q) (fun _ _=>False) s)
    (he:∀ C s3 H3 fp pins,PE (compCxC X N' scope cl C s3 H3 fp pins) elt te)
    (hclos:closureFor scope X.env=pure cl) (hkind:scope.kind=.function) (hnames:∀ y∈scope.names,y.2=.local→scope.names.lookup y.1=some .local)
    (hs:∀ x,foldedSetIterable iter X.env x=pure x) (hsw:swapsWith (.ListComp elt [⟨tg,iter,ifs,0⟩] scope pos) (some (.Name x pos')) spos.line X.env=pure true) :
    PS X (.Assign [.Name x pos'] (.ListComp elt [⟨tg,iter,ifs,0⟩] scope pos) spos) (tSetC (tComp wi g tt te σ0) i):=by
  intro pins s σ H D I h
  rw [exec_Assign_Name_used _ _ _ _ hsw]
  refine wpAny_bind (wpAny_standAt (wpAny_bind ?_))
  show wpAny _ X.A (do let _ ← comprehension (.ListComp elt [⟨tg,iter,ifs,0⟩] scope pos) scope X.env _ (newList []) false (eval iter X.env) (some (assign (.Name x pos') X.env))) _ _ s
  refine wpAny_bind (wpAny_mono (wpAny_comprehension_free (Q:=fun _ s'=>SP X pins D .next s') (use:=some (assign (.Name x pos') X.env)) rfl hs hclos hkind hnames (thn (hi pins s σ H _ I h) fun v s1 h1=>thn h1 fun itv s2 h2=>?_))
    (fun _ s' hq=>wpAny_pure (wpAny_pure hq)) fun _ _ e=>e)
  obtain ⟨it,fp,tn,J,H2,e,I2,T,st2,f2,q⟩:=h2
  subst e
  refine comp_blockC (RR:=fun acc C=>compPost (model X.prog X.w) X.A X.xe (some (assign (.Name x pos') X.env)) (fun _ s'=>SP X pins D .next s') acc C) hc hkind I2 T st2 f2 (fr σ I.len) (hk σ) hg ht he q ?_
  intro Dl C s' H' m I' hn hC h1 h2 h3 h4 q'
  show wpAny _ _ (assign (.Name x pos') X.env (.ref Dl)) _ _ s'
  refine wpAny_assign_Name (store_ok2 (v:=.ref Dl) I' hN hi' hx rfl (fun s'' I'' ⟨a,hsb,ha⟩=>?_) hf)
  have hne:C≠a:=by
    rcases ha with rfl | ha
    · exact h1
    · exact Ne.symm (h3 x a ha)
  refine ⟨m,hn.sameBut hsb hne,fun h'' hs''=>⟨_,H',?_,q'⟩⟩
  exact I''.turned (t':=s''.toks) (fun b o hb e=>hs''.extBut b o hb e) hC h1 (.inr h2) h3 h4
theorem FreesC.many {is:List Nat} {ts zs:List Str} {k:Nat} {σ:St} (hk:ts.length=k) (hs:SubL X cl) (hc:CapL X scope cl is zs)
    (ha:((relabel scope X.env).names.all fun y=>!(y.2==.cell || y.2==.free) || zs.contains y.1 || (scope.names.lookup y.1==some .cell))=true)
    (ho:(zs.all fun z=>scope.names.all fun y=>!(y.2==.cell) || !(y.1==z))=true) (hcl:(scope.names.all fun y=>!(y.2==.cell) || (cl.lookup y.1).isNone)=true):FreesC X (ts++zs) scope cl σ (s0 k is σ):=by
  have vals:∀ (j:Nat) (x:Str) (v:V),(ts++zs)[j]?=some x→(s0 k is σ)[j]?=some (some v)→x∈zs∧∃ (i:Nat) (c:Addr),X.N[i]?=some x∧σ[i]?=some (some v)∧Vis X.env.scope x∧X.env.kindOf x≠some .local∧cl.lookup x=some c ∧
    ((relabel scope X.env).names.lookup x=some .cell∨(relabel scope X.env).names.lookup x=some .free):=fun j x v e1 e2=>by
    unfold s0 at e2
    by_cases hj:j<k
    · rw [List.getElem?_append_left (by simpa using hj),List.getElem?_replicate,if_pos hj] at e2; cases e2
    · rw [List.getElem?_append_right (by simpa using hj),List.length_replicate,List.getElem?_map] at e2
      rw [List.getElem?_append_right (by omega),hk] at e1
      obtain ⟨i,c,f1,f2,f3,f4,f5⟩:=hc.get _ _ e1
      rw [f1] at e2
      have e3:(σ[i]?).join=some v:=Option.some.inj e2
      refine ⟨List.mem_of_getElem? e1,i,c,f2,VL.join_some e3,?_,?_,f4,f5⟩
      · rcases f3 with q | q
        · exact .inr (.inl q)
        · exact .inr (.inr q)
      · intro w
        have w:X.env.scope.names.lookup x=some .local:=w
        rcases f3 with q | q <;> rw [q] at w <;> cases w
  refine ⟨hs.sub,fun j x v e1 e2=>(vals j x v e1 e2).2,fun j x v e1 e2=>List.all_eq_true.mp ho x (vals j x v e1 e2).1,fun x h=>?_,fun x c h e=>?_,by unfold s0; rw [List.length_append,List.length_append,List.length_replicate,List.length_map,hk,hc.len]⟩
  · have key:∀ kd,(relabel scope X.env).names.lookup x=some kd→(kd==NameKind.cell || kd==NameKind.free)=true→x∈zs∨scope.names.lookup x=some .cell:=fun kd e q=>by
      have m:=List.all_eq_true.mp ha _ (PySem.mem_of_lookup e)
      rw [q] at m
      have m':zs.contains x=true∨(scope.names.lookup x==some .cell)=true:=by simpa using m
      rcases m' with m' | m'
      · exact .inl (List.contains_iff_mem.mp m')
      · exact .inr (eq_of_beq m')
    have mem:x∈zs∨scope.names.lookup x=some .cell:=by
      rcases h with h | h
      · exact key _ h rfl
      · exact key _ h rfl
    rcases mem with mem | mem
    · obtain ⟨j,hj⟩:=List.getElem?_of_mem mem
      obtain ⟨i,c,_,_,_,f4,_⟩:=hc.get j x hj
      exact .inr (by rw [f4]; rfl)
    · exact .inl mem
  · have m:=List.all_eq_true.mp hcl _ (PySem.mem_of_lookup (eq_of_beq h))
    rw [e] at m
    simp at m
variable {c:Expr} {ts zs:List Str} {is:List Nat} {k:Nat}
theorem testsC0:∀ C s3 H3 fp pins (pl:List (Addr×Obj)) (s:Shared) (σ:St) (H:Hp) (Q:Bool→Hp→Prop),Inv (compCxC X N' scope cl C s3 H3 fp pins) pl σ H s→tTrue σ H Q →
    wpAny (model X.prog X.w) X.A (forIn ([]:List Expr) true fun c r=>if r=true then do let ok ← isTrue c (compEnvC scope (cellsFrom (C+1) scope.names cl) C X.env) (eval c (compEnvC scope (cellsFrom (C+1) scope.names cl) C X.env)); pure (ForInStep.yield ok) else pure (ForInStep.yield r)) (TP (compCxC X N' scope cl C s3 H3 fp pins) pl σ Q) (fun _ _=>False) s :=
  fun _ _ _ _ _ _ _ _ H _ I h=>wpAny_tests_nil ⟨H,I,h⟩
theorem pe_cM0 (hc:X.calm=true) (hi:PI X tg iter wi) (hk:ts.length=k) (hs:SubL X cl) (hcp:CapL X scope cl is zs) (ha:((relabel scope X.env).names.all fun y=>!(y.2==.cell || y.2==.free) || zs.contains y.1 || (scope.names.lookup y.1==some .cell))=true)
    (ho:(zs.all fun z=>scope.names.all fun y=>!(y.2==.cell) || !(y.1==z))=true) (hcl:(scope.names.all fun y=>!(y.2==.cell) || (cl.lookup y.1).isNone)=true) (hl:Low k g)
    (hg:∀ C s3 H3 fp pins,PG (compCxC X (ts++zs) scope cl C s3 H3 fp pins) tg g) (he:∀ C s3 H3 fp pins,PE (compCxC X (ts++zs) scope cl C s3 H3 fp pins) elt te)
    (hclos:closureFor scope X.env=pure cl) (hkind:scope.kind=.function) (hnames:∀ y∈scope.names,y.2=.local→scope.names.lookup y.1=some .local)
    (hf:∀ x,foldedSetIterable iter X.env x=pure x:=by intro _; rfl):PE X (.ListComp elt [⟨tg,iter,[],0⟩] scope pos) (tComp wi g tTrue te (s0 k is)) :=
  pe_compGC hc hi (fun _ _=>FreesC.many hk hs hcp ha ho hcl) (fun σ=>hl.keep σ) hg testsC0 he hclos hkind hnames hf
theorem ps_cM0 {i:Nat} {x:Str} {pos' spos:Pos} (hN:X.N.Nodup) (hi':X.N[i]?=some x) (hxl:X.env.scope.names.lookup x=some .local) (hc:X.calm=true) (hi:PI X tg iter wi) (hk:ts.length=k) (hs:SubL X cl) (hcp:CapL X scope cl is zs) (ha:((relabel scope X.env).names.all fun y=>!(y.2==.cell || y.2==.free) || zs.contains y.1 || (scope.names.lookup y.1==some .cell))=true)
    (ho:(zs.all fun z=>scope.names.all fun y=>!(y.2==.cell) || !(y.1==z))=true) (hcl:(scope.names.all fun y=>!(y.2==.cell) || (cl.lookup y.1).isNone)=true) (hl:Low k g)
    (hg:∀ C s3 H3 fp pins,PG (compCxC X (ts++zs) scope cl C s3 H3 fp pins) tg g) (he:∀ C s3 H3 fp pins,PE (compCxC X (ts++zs) scope cl C s3 H3 fp pins) elt te)
    (hclos:closureFor scope X.env=pure cl) (hkind:scope.kind=.function) (hnames:∀ y∈scope.names,y.2=.local→scope.names.lookup y.1=some .local)
    (hf:∀ x,foldedSetIterable iter X.env x=pure x:=by intro _; rfl) (hsw:swapsWith (.ListComp elt [⟨tg,iter,[],0⟩] scope pos) (some (.Name x pos')) spos.line X.env=pure true:=by rfl):PS X (.Assign [.Name x pos'] (.ListComp elt [⟨tg,iter,[],0⟩] scope pos) spos) (tSetC (tComp wi g tTrue te (s0 k is)) i) :=
 ps_setCGC hN hi' (.inl hxl) (.inr hxl) hc hi (fun _ _=>FreesC.many hk hs hcp ha ho hcl) (fun σ=>hl.keep σ) hg testsC0 he hclos hkind hnames hf hsw
end
end L2
namespace L2
open PySem PySem.Spec PyProof.Rows
theorem pgbC {X:Cx} {N':List Str} {scope:Scope} {cl:List (Str×Addr)} {i:Nat} {y:Str} {py:Pos} {C:Addr} {s3:Shared} {H3:Hp} {fp:List Addr} {pins:List (Addr×Obj)} (nd:N'.Nodup) (hi:N'[i]?=some y)
    (hx:Loc (relabel scope X.env) y) (hf:(scope.names.lookup y==some .cell)=true∨(relabel scope X.env).names.lookup y=some .local):PG (compCxC X N' scope cl C s3 H3 fp pins) (.Name y py) (gName i):=pg_name nd hi hx hf
end L2
namespace L2
open PySem PySem.Spec PyProof.Rows
section
variable {X:Cx}
end
end L2
namespace VL
open PySem L2
open Classical
noncomputable section
variable [Tabs] {K:PySem.W.Frag}
end
end VL
namespace PySem
open Sem (wp)
section
variable {prog:Program} {w:World} {A:Around} {E:Value→Shared→Prop} {s:Shared}
end
end PySem
namespace L2
open PySem PySem.Spec PyProof.Rows
section
variable {X:Cx}
end
end L2
namespace VL
open PySem L2
open Classical
noncomputable section
variable [Tabs] {K:PySem.W.Frag}
end
end VL
namespace VL
open PySem L2
open Classical
noncomputable section
variable [Tabs] {K:PySem.W.Frag} {fr:Fm}
def SemM (K:PySem.W.Frag) (t:TE) (e:Rho→Option (List (List D))):Prop:=∀ {B:Hp} {Z:Addr→Prop} {os:Own} {ρ:Rho} {σ:L2.St} {H:Hp} {Q:VK} {rows:List (List D)},Fr K B Z os ρ σ H→e ρ=some rows →
  (∀ x ps H',Same H H'→H x=none→(∀ a∈ps,H a=none)→(x::ps).Nodup→H' x=some (.lst (ps.map V.ref))→ps.length≤sizeLine→Paired (fun q ds=>∃ vs,H' q=some (.lst vs)∧vs.length≤sizeLine∧IsL K H' (fun a=>(a=x∨a∈ps)∨tot Z os a) vs ds) ps rows→Q (.ref x) H')→t σ H Q
def rowsL (rows:List (List D)):D:=.lst (rows.map D.lst)
def unrow:D→Option (List D)
  | .lst ds=>some ds
  | _=>none
def unrows:List D→Option (List (List D))
  | []=>some []
  | d::r=>match unrow d with
    | some x=>(match unrows r with
      | some y=>some (x::y)
      | none=>none)
    | none=>none
theorem unrows_map:∀ (rows:List (List D)),unrows (rows.map D.lst)=some rows
  | []=>rfl
  | x::r=>by show (match unrow (.lst x) with | some x=>(match unrows (r.map D.lst) with | some y=>some (x::y) | none=>none) | none=>none)=_; rw [unrows_map r]; rfl
@[irreducible] noncomputable def sSetM (i:Nat) (a:Rho→Option (List (List D))):DS:=fun ρ=>match a ρ with
  | some rows=>if i < ρ.length then .nx (ρ.set i (.om rows)) else .no
  | none=>.no
theorem ss_setM {i:Nat} {ta:TE} {a:Rho→Option (List (List D))} (h:SemM K ta a):SemS fr K (tAsg ta (gName i)) (sSetM i a):=fun {B Z os ρ σ H E} f p=>by
  unfold sSetM at p
  split at p
  · rename_i rows e
    by_cases hi:i < ρ.length
    · rw [if_pos hi] at p
      refine h f e fun x ps H1 s1 hx hps hn hH hl r=>?_
      have st:=f.step (H':=H1) (i:=i) hi (o:=x::ps) (s:=.om rows) (v:=some (.ref x)) (fun a u e _=>s1 _ _ e) (fun a ha=>let ⟨xs,e⟩:=(f.sl i).dom ha; ⟨_,s1 _ _ e⟩) hn (fun a ha=>?_)
        ⟨x,ps,rfl,rfl,hH,hl,Paired.mono r fun q ds _ ⟨vs,h1,h2,h3⟩=>⟨vs,h1,h2,h3.kp (Kp.less fun a z=>?_)⟩⟩
      · exact p _ _ _ st.1 st.2
      · rcases List.mem_cons.mp ha with rfl | ha
        · exact .inr hx
        · exact .inr (hps a ha)
      · rcases z with z | ⟨j,z⟩
        · exact .inr (.inl z)
        · by_cases hj:j=i
          · subst hj; rw [putO_same] at z; exact .inl (List.mem_cons.mp z)
          · rw [putO_ne hj] at z; exact .inr (.inr ⟨j,z⟩)
    · rw [if_neg hi] at p; exact p.elim
  · exact p.elim
theorem ss_setMC {i:Nat} {ta:TE} {a:Rho→Option (List (List D))} (h:SemM K ta a):SemS fr K (tSetC ta i) (sSetM i a):=ss_setM (i:=i) h
theorem Paired.setAt {α β:Type} {F G:α→β→Prop} {p:α} {y:β}:∀ {ps:List α} {rows:List β} {r:Nat},Paired F ps rows→ps.Nodup→(∀ q ds,q≠p→F q ds→G q ds)→ps[r]?=some p→G p y→Paired G ps (rows.set r y)
  | _,_,0,.cons h t,hn,hf,e,g=>by
    cases e
    exact .cons g (Paired.mono t fun q ds hq h=>hf q ds (fun z=>(List.nodup_cons.mp hn).1 (z ▸ hq)) h)
  | _,_,r+1,.cons h t,hn,hf,e,g=>by
    have e':=show _=some p by simpa using e
    exact .cons (hf _ _ (fun z=>(List.nodup_cons.mp hn).1 (z ▸ List.mem_of_getElem? e')) h) (Paired.setAt t (List.nodup_cons.mp hn).2 hf e' g)
theorem Paired.getF {α β:Type} {F:α→β→Prop}:∀ {ps:List α} {rows:List β} {r:Nat} {y:β},Paired F ps rows→rows[r]?=some y→∃ p,ps[r]?=some p∧F p y
  | _,_,0,_,.cons h _,e=>by cases e; exact ⟨_,rfl,h⟩
  | _,_,r+1,_,.cons _ t,e=>by
    obtain ⟨p,e1,h⟩:=Paired.getF (r:=r) t (by simpa using e)
    exact ⟨p,by simpa using e1,h⟩
theorem om_of {B H:Hp} {Z:Addr→Prop} {os:Own} {ρ:Rho} {σ:L2.St} (f:Fr K B Z os ρ σ H) {i:Nat} {rows:List (List D)} (e:ρ.getD i .un=.om rows) :
    ∃ a ps,os i=a::ps∧(σ[i]?).join=some (.ref a)∧H a=some (.lst (ps.map V.ref))∧ps.length≤sizeLine∧ps.length=rows.length∧Paired (fun p ds=>∃ vs,H p=some (.lst vs)∧vs.length≤sizeLine∧IsL K H (tot Z os) vs ds) ps rows:=by
  have s:=f.sl i
  rw [e] at s
  obtain ⟨a,ps,h1,h2,h3,h4,h5⟩:=s
  exact ⟨a,ps,h1,h2,h3,h4,Paired.length h5,h5⟩
theorem Fr.mutM1 {B H:Hp} {Z:Addr→Prop} {os:Own} {ρ:Rho} {σ:L2.St} (f:Fr K B Z os ρ σ H) {i r:Nat} {a p:Addr} {ps:List Addr} {rows:List (List D)} {ds':List D} {vs':List V} (e:ρ.getD i .un=.om rows) (eo:os i=a::ps) (hu:(σ[i]?).join=some (.ref a)) (hr:ps[r]?=some p) (hl:vs'.length≤sizeLine) (h:IsL K H (tot Z os) vs' ds') :
    Fr K B Z (putO os i (a::ps)) (ρ.set i (.om (rows.set r ds'))) σ (upd H p (.lst vs'))∧Kp (tot Z os) H (tot Z (putO os i (a::ps))) (upd H p (.lst vs')):=by
  have s:=f.sl i
  rw [e] at s
  obtain ⟨b,qs,eo',hu',hH,hlp,i1⟩:=s
  rw [eo] at eo'
  cases eo'
  have hi:=getD_lt e (by intro z; cases z)
  have hn:=f.nd i
  rw [eo] at hn
  have hp:p∈ps:=List.mem_of_getElem? hr
  have hpo:p∈os i:=by rw [eo]; exact List.mem_cons_of_mem _ hp
  have hap:a≠p:=fun z=>(List.nodup_cons.mp hn).1 (z ▸ hp)
  have tt:tot Z (putO os i (a::ps))=tot Z os:=by
    funext c
    apply propext
    constructor
    · rintro (z | ⟨j,z⟩)
      · exact .inl z
      · by_cases hj:j=i
        · subst hj; rw [putO_same] at z; exact .inr ⟨j,by rw [eo]; exact z⟩
        · rw [putO_ne hj] at z; exact .inr ⟨j,z⟩
    · rintro (z | ⟨j,z⟩)
      · exact .inl z
      · by_cases hj:j=i
        · subst hj; exact .inr ⟨j,by rw [putO_same,← eo]; exact z⟩
        · exact .inr ⟨j,by rw [putO_ne hj]; exact z⟩
  have kp:Kp (tot Z os) H (tot Z os) (upd H p (.lst vs')):=fun b u e z=>⟨by rw [upd_ne (fun w=>z (.inr ⟨i,by rw [w]; exact hpo⟩))]; exact e,z⟩
  have st:=f.step (H':=upd H p (.lst vs')) (i:=i) hi (o:=a::ps) (s:=.om (rows.set r ds')) (v:=some (.ref a)) (fun b u e n=>by rw [upd_ne (fun z=>n (by rw [z]; exact hpo))]; exact e) (fun b hb=>?_) hn (fun b hb=>by rw [← eo] at hb; exact .inl hb)
    ⟨a,ps,rfl,rfl,by rw [upd_ne hap]; exact hH,hlp,?_⟩
  · rw [set_self hu'] at st
    exact st
  · by_cases hb':b=p
    · rw [hb']; exact ⟨_,upd_same⟩
    · rw [upd_ne hb']; obtain ⟨xs,e⟩:=(f.sl i).dom hb; exact ⟨_,e⟩
  · rw [tt]
    exact Paired.setAt i1 (List.nodup_cons.mp hn).2 (fun q ds hq ⟨vs,h1,h2,h3⟩=>⟨vs,by rw [upd_ne hq]; exact h1,h2,h3.kp kp⟩) hr ⟨vs',upd_same,hl,h.kp kp⟩
theorem Fr.mutM {B H:Hp} {Z:Addr→Prop} {os:Own} {ρ:Rho} {σ:L2.St} (f:Fr K B Z os ρ σ H) {i r:Nat} {a p:Addr} {ps:List Addr} {rows:List (List D)} {ds':List D} {vs':List V} (e:ρ.getD i .un=.om rows) (eo:os i=a::ps) (hu:(σ[i]?).join=some (.ref a)) (hr:ps[r]?=some p) (hl:vs'.length≤sizeLine) (h:IsL K H (tot Z os) vs' ds') :
    ∃ os',Fr K B Z os' (ρ.set i (.om (rows.set r ds'))) σ (upd H p (.lst vs'))∧Kp (tot Z os) H (tot Z os') (upd H p (.lst vs')):=⟨_,f.mutM1 e eo hu hr hl h⟩
theorem row_at {B H:Hp} {Z:Addr→Prop} {os:Own} {ρ:Rho} {σ:L2.St} (f:Fr K B Z os ρ σ H) {i:Nat} {rows:List (List D)} {n:Int} {r:Nat} {ds:List D} (e:ρ.getD i .un=.om rows) (hn:ixN rows.length n=some r) (hd:rows[r]?=some ds) :
    ∃ a ps p vs,os i=a::ps∧(σ[i]?).join=some (.ref a)∧H a=some (.lst (ps.map V.ref))∧atI (ps.map V.ref) n=some (V.ref p)∧ps[r]?=some p∧H p=some (.lst vs)∧vs.length≤sizeLine∧IsL K H (tot Z os) vs ds:=by
  obtain ⟨a,ps,h1,h2,h3,h4,h5,h6⟩:=om_of f e
  obtain ⟨p,e1,vs,g1,g2,g3⟩:=Paired.getF h6 hd
  refine ⟨a,ps,p,vs,h1,h2,h3,?_,e1,g1,g2,g3⟩
  unfold atI
  rw [List.length_map,h5,hn]
  show (ps.map V.ref)[r]?=_
  rw [List.getElem?_map,e1]
  rfl
@[irreducible] noncomputable def sAug2 (g:Int→Int→Int) (i:Nat) (b c a:DE):DS:=fun ρ=>match ρ.getD i .un with
  | .om rows => (match b ρ with
    | some (.int n)=>(match ixN rows.length n with
      | some r=>(match rows[r]? with
        | some ds=>(match c ρ with
          | some (.int m)=>(match ixN ds.length m with
            | some j=>(match ds[j]? with
              | some (.int x)=>(match a ρ with
                | some (.int y)=>.nx (ρ.set i (.om (rows.set r (ds.set j (.int (g x y))))))
                | _=>.no)
              | _=>.no)
            | none=>.no)
          | _=>.no)
        | none=>.no)
      | none=>.no)
    | _=>.no)
  | _=>.no
theorem ss_aug2 {i:Nat} {g:Int→Int→Int} {ta tb tc:TE} {a b c:DE} (hb:SemB K tb b) (hc:SemB K tc c) (ha:SemB K ta a):SemS fr K (tAugS (tOp (rIx K) (tVar i) tb) tc ta (rIxL K) (ipI g) rSetL) (sAug2 g i b c a):=fun {B Z os ρ σ H E} f p=>by
  unfold sAug2 at p
  split at p
  · rename_i rows e
    split at p
    · rename_i n e2
      split at p
      · rename_i r e3
        split at p
        · rename_i ds e4
          split at p
          · rename_i m e5
            split at p
            · rename_i j e6
              split at p
              · rename_i z e7
                split at p
                · rename_i y e8
                  obtain ⟨x,ps,q,vs,eo,hu,hH,hat,hr,hq,hl,il⟩:=row_at f e e3 e4
                  refine ⟨_,join_some hu,hb f e2 fun w H2 s2 i2=>.inl ⟨x,ps.map V.ref,n,.ref q,rfl,i2.isInt,SqL.of (s2 _ _ hH),hat,hc (f.grow s2) e5 fun u H3 s3 i3=>?_⟩⟩
                  have s13:=s2.trans s3
                  obtain ⟨v,ev,iv⟩:=il.get e7
                  refine ⟨q,vs,m,v,rfl,i3.isInt,SqL.of (s13 _ _ hq),?_,ha (f.grow s13) e8 fun u' H4 s4 i4=>⟨z,y,iv.isInt,i4.isInt,?_⟩⟩
                  · unfold atI; rw [il.length,e6]; exact ev
                  · have s14:=s13.trans s4
                    have f4:=f.grow s14
                    obtain ⟨os',f',k⟩:=f4.mutM (vs':=vs.set j (.int (g z y))) (ds':=ds.set j (.int (g z y))) e eo hu hr (by rw [List.length_set]; exact hl) ((il.same s14).set (.int _) j)
                    exact ⟨q,vs,m,j,rfl,i3.isInt,s14 _ _ hq,by rw [il.length]; exact e6,p os' _ _ f' ((Kp.same s14).trans k)⟩
                · exact p.elim
              · exact p.elim
            · exact p.elim
          · exact p.elim
        · exact p.elim
      · exact p.elim
    · exact p.elim
  · exact p.elim
end
end VL
namespace VL
open PySem L2
open Classical
noncomputable section
variable [Tabs] {K:PySem.W.Frag} {fr:Fm}
theorem blockFrZ {B H1 H:Hp} {Z W:Addr→Prop} {os:Own} {ρ:Rho} {σ:L2.St} (f:Fr K B Z os ρ σ H1) (s:Same H1 H) (hw:∀ a,W a→∃ o,H a=some o) (hk:Kp (tot Z os) H1 W H) (k:Nat) (cs:List Nat) :
    Fr K H1 W (fun _=>[]) (r0 k cs ρ) (s0 k cs σ) H where
  keep:=s
  zin:=hw
  tab:=f.tabH
  len:=by unfold r0 s0; simp
  nd:=fun _=>List.nodup_nil
  dj:=fun _ _ _ h=>by cases h
  new:=fun _ _ h=>by cases h
  sl:=fun j=>by
    have kp:Kp (tot Z os) H1 (tot W fun _=>[]) H:=fun a u e z=>⟨(hk a u e z).1,fun q=>q.elim (hk a u e z).2 fun ⟨_,q⟩=>by cases q⟩
    unfold r0 s0
    rw [List.getD_eq_getElem?_getD]
    by_cases hj:j<k
    · rw [List.getElem?_append_left (by simpa using hj),List.getElem?_append_left (by simpa using hj),List.getElem?_replicate,if_pos hj]
      exact rfl
    · rw [List.getElem?_append_right (by simpa using hj),List.getElem?_append_right (by simpa using hj),List.length_replicate,List.length_replicate,List.getElem?_map,List.getElem?_map]
      cases e:cs[j-k]? with
      | none=>exact rfl
      | some i =>
        have h:=f.sl i
        show SlOk K _ _ _ _ (view (ρ.getD i .un)) ((σ[i]?).join)
        cases e2:ρ.getD i .un with
        | un=>exact rfl
        | pu d =>
          rw [e2] at h
          obtain ⟨_,u,hu,i1⟩:=h
          exact ⟨rfl,u,hu,i1.kp kp⟩
        | bo d =>
          rw [e2] at h
          obtain ⟨_,u,hu,i1⟩:=h
          exact ⟨rfl,u,hu,i1.same f.keep⟩
        | ol ds =>
          rw [e2] at h
          obtain ⟨a,vs,_,hu,hH,hl,i1⟩:=h
          exact ⟨rfl,_,hu,.lst (fun z=>z) (.inl hH) hl i1.all⟩
        | om rows =>
          rw [e2] at h
          obtain ⟨a,ps,_,hu,hH,hl,i1⟩:=h
          exact ⟨rfl,_,hu,.lst (fun z=>z) (.inl hH) (by rw [List.length_map]; exact hl) (rows_is i1)⟩
        | od kvs =>
          rw [e2] at h
          obtain ⟨a,_,hu,hH,hl⟩:=h
          exact ⟨rfl,_,hu,.dct (fun z=>z) (.inl hH) hl⟩
        | pm a ps rows =>
          rw [e2] at h
          obtain ⟨_,hu,hH,hl,i1⟩:=h
          exact ⟨rfl,_,hu,.lst (fun z=>z) (.inl hH) (by rw [List.length_map]; exact hl) (rows_is i1)⟩
        | pd a kvs =>
          rw [e2] at h
          obtain ⟨_,hu,hH,hl⟩:=h
          exact ⟨rfl,_,hu,.dct (fun z=>z) (.inl hH) hl⟩
def compGoM (g:DG) (t:Rho→Option Bool) (e:Rho→Option (List D)) (ρ0:Rho):List D→Option (List (List D))
  | []=>some []
  | d::ds=>match g d ρ0 with
    | none=>none
    | some ρ1=>match t ρ1 with
      | none=>none
      | some false=>compGoM g t e ρ0 ds
      | some true=>match e ρ1 with
        | none=>none
        | some y=>match compGoM g t e ρ0 ds with
          | none=>none
          | some ys=>some (y::ys)
noncomputable def dCompM (k:Nat) (cs:List Nat) (it:Rho→Option (List D)) (g:DG) (t:Rho→Option Bool) (e:Rho→Option (List D)):Rho→Option (List (List D)):=fun ρ=>match it ρ with
  | some ds=>compGoM g t e (r0 k cs ρ) ds
  | none=>none
theorem sm_comp {m:Bool} {k:Nat} {cs:List Nat} {wi:TI} {g:TG} {tt:TT} {te:TE} {it:Rho→Option (List D)} {gd:DG} {td:Rho→Option Bool} {ed:Rho→Option (List D)} (hw:SemWC K m wi it) (hg:SemG K m g gd) (ht:SemT K tt td) (he:SemF K te ed) :
    SemM K (tComp wi g tt te (s0 k cs)) (dCompM k cs it gd td ed):=fun {B Z os ρ σ H Q ds} f q kk=>by
  unfold dCompM at q
  split at q
  · rename_i xs e0
    refine hw f e0 fun J H1 s1 W Dl hD=>?_
    have f1:=f.grow s1
    have sD:∀ {H2:Hp} {ys:List V},Same H1 H2→Same H1 (upd H2 Dl (.lst ys)):=fun {H2 ys} s a o e=>by
      rw [upd_ne (ne_of_none e hD)]; exact s _ _ e
    let ZZ:List Addr→Addr→Prop:=fun ps a=>(a=Dl∨a∈ps)∨tot Z os a
    refine ⟨fun i m ys H2=>m=xs.length-i∧i≤xs.length∧Same H1 H2∧H2 Dl=some (.lst ys)∧ys.length≤i∧∃ ps done rest,ys=ps.map V.ref∧(∀ a∈ps,H1 a=none)∧(Dl::ps).Nodup∧Paired (fun q ds=>∃ vs,H2 q=some (.lst vs)∧vs.length≤sizeLine∧IsL K H2 (ZZ ps) vs ds) ps done∧compGoM gd td ed (r0 k cs ρ) (xs.drop i)=some rest∧done++rest=ds,
      ⟨_,rfl,Nat.zero_le _,sD (Same.refl _),upd_same,Nat.le_refl _,[],[],ds,rfl,(fun a h=>by cases h),(by simp),.nil,q,rfl⟩,?_⟩
    rintro i mm ys H2 ⟨rfl,hi,s2,eD,hly,ps,done,rest,rfl,hps,hnd,il,q2,ed2⟩
    have zin2:∀ a,ZZ ps a→∃ o,H2 a=some o:=by
      rintro a ((rfl | z) | z)
      · exact ⟨_,eD⟩
      · obtain ⟨_,vs,h,_⟩:=Paired.any il z
        exact ⟨_,h⟩
      · obtain ⟨u,e⟩:=f1.tin a z
        exact ⟨u,s2 _ _ e⟩
    have kp12:Kp (tot Z os) H1 (ZZ ps) H2:=fun a u e z=>⟨s2 _ _ e,fun w=>by
      rcases w with (rfl | w) | w
      · rw [hD] at e; cases e
      · rw [hps a w] at e; cases e
      · exact z w⟩
    by_cases hlt:i<xs.length
    · have ex:xs[i]?=some xs[i]:=List.getElem?_eq_getElem hlt
      obtain ⟨go,yl⟩:=W.go i xs[i] H2 _ kp12 s2 zin2 ex
      refine .inr ⟨go,fun x H3 hy=>?_⟩
      obtain ⟨s3,er⟩:=yl x H3 hy
      have eD3:=s3 _ _ eD
      have s13:=s2.trans s3
      have kp13:Kp (tot Z os) H1 (ZZ ps) H3:=kp12.trans (Kp.same s3)
      have ef3:=blockFrZ f1 s13 (fun a z=>let ⟨o,e⟩:=zin2 a z; ⟨o,s3 _ _ e⟩) kp13 k cs
      rw [List.drop_eq_getElem_cons hlt] at q2
      unfold compGoM at q2
      have er':ER K m H1 H3 (tot (ZZ ps) fun _=>[]) x xs[i]:=by
        cases m with
        | false=>exact er
        | true=>exact Is.kp (Kp.less fun a z=>z.elim id fun ⟨_,w⟩=>by cases w) er
      have il3:∀ {H':Hp},Same H2 H'→Paired (fun q ds=>∃ vs,H' q=some (.lst vs)∧vs.length≤sizeLine∧IsL K H' (ZZ ps) vs ds) ps done:=fun {H'} s=>Paired.mono il fun q ds _ ⟨vs,h1,h2,h3⟩=>⟨vs,s _ _ h1,h2,h3.same s⟩
      split at q2
      · cases q2
      · rename_i ρ1 e1
        refine hg ef3 er' e1 fun os1 σ1 fr1 k1=>?_
        split at q2
        · cases q2
        · rename_i e2
          refine ht fr1 e2 fun H4 s4=>iteF ⟨_,by omega,rfl,hlt,s13.trans s4,s4 _ _ eD3,by omega,ps,done,rest,rfl,hps,hnd,il3 (s3.trans s4),q2,ed2⟩
        · rename_i e2
          refine ht fr1 e2 fun H4 s4=>iteT ?_
          split at q2
          · cases q2
          · rename_i y e3
            split at q2
            · cases q2
            · rename_i rs e4
              cases q2
              refine he (fr1.grow s4) e3 fun x2 vs2 H5 s5 hx2 hH5 hl5 i5=>?_
              have s35:=s4.trans s5
              have s25:=s3.trans s35
              have eD5:=s35 _ _ eD3
              have hl:=W.len
              have hx3:H3 x2=none:=Same.free s4 hx2
              have hxD:x2≠Dl:=fun z=>by rw [z,eD3] at hx3; cases hx3
              have hxps:x2∉ps:=fun z=>by
                obtain ⟨o,e⟩:=zin2 x2 (.inl (.inr z))
                rw [s3 _ _ e] at hx3; cases hx3
              have hxt:¬ tot Z os x2:=fun z=>by
                obtain ⟨o,e⟩:=zin2 x2 (.inr z)
                rw [s3 _ _ e] at hx3; cases hx3
              have sub:∀ a,ZZ (ps++[x2]) a→a=x2∨ZZ ps a:=by
                rintro a ((rfl | z) | z)
                · exact .inr (.inl (.inl rfl))
                · rcases List.mem_append.mp z with z | z
                  · exact .inr (.inl (.inr z))
                  · exact .inl (List.mem_singleton.mp z)
                · exact .inr (.inr z)
              have sup:∀ a,a=x2∨ZZ ps a→ZZ (ps++[x2]) a:=by
                rintro a (rfl | (rfl | z) | z)
                · exact .inl (.inr (by simp))
                · exact .inl (.inl rfl)
                · exact .inl (.inr (List.mem_append_left _ z))
                · exact .inr z
              have kp5:∀ (zs:List V),Kp (ZZ ps) H2 (ZZ (ps++[x2])) (upd H5 Dl (.lst zs)):=fun zs a u e z=>⟨by rw [upd_ne (fun w=>z (.inl (.inl w)))]; exact s25 _ _ e,fun w=>by
                rcases sub a w with rfl | w
                · rw [s3 _ _ e] at hx3; cases hx3
                · exact z w⟩
              have kp6:∀ (zs:List V),Kp (ZZ (ps++[x2])) H5 (ZZ (ps++[x2])) (upd H5 Dl (.lst zs)):=fun zs a u e z=>⟨by rw [upd_ne (fun w=>z (.inl (.inl w)))]; exact e,z⟩
              refine ⟨eD5,by rw [List.length_map] at hly ⊢; omega,_,by omega,rfl,hlt,sD (s13.trans s35),upd_same,by rw [List.length_append,List.length_singleton]; omega,ps++[x2],done++[y],rs,by rw [List.map_append]; rfl,fun a ha=>?_,?_,?_,e4,by rw [List.append_assoc]; exact ed2⟩
              · rcases List.mem_append.mp ha with ha | ha
                · exact hps a ha
                · rw [List.mem_singleton.mp ha]; exact Same.free s13 hx3
              · rw [← List.cons_append,List.nodup_append]
                refine ⟨hnd,by simp,fun a h1 b h2=>?_⟩
                rw [List.mem_singleton.mp h2]
                rintro rfl
                rcases List.mem_cons.mp h1 with z | z
                · exact hxD z
                · exact hxps z
              · refine Paired.append (Paired.mono il fun q ds hq ⟨vs,h1,h2,h3⟩=>⟨vs,?_,h2,h3.kp (kp5 _)⟩) (.cons ⟨vs2,?_,hl5,?_⟩ .nil)
                · rw [upd_ne (fun z=>by rw [z] at hq; exact (List.nodup_cons.mp hnd).1 hq)]; exact s25 _ _ h1
                · rw [upd_ne hxD]; exact hH5
                · exact (i5.kp (Kp.less fun a z=>by
                    rcases sub a z with z | z
                    · exact .inl z
                    · exact .inr (.inl z)):IsL K H5 (ZZ (ps++[x2])) vs2 y).kp (kp6 _)
    · have e:i=xs.length:=by omega
      subst e
      rw [List.drop_length] at q2
      cases q2
      rw [List.append_nil] at ed2
      subst ed2
      have hl:=W.len
      rw [List.length_map] at hly
      exact .inl ⟨W.stop _ H2 _ kp12 s2 rfl,eD,kk Dl ps H2 (s1.trans s2) (Same.free s1 hD) (fun a ha=>Same.free s1 (hps a ha)) hnd eD (by omega) il⟩
  · cases q
@[irreducible] noncomputable def sApp2 (i:Nat) (b a:DE):DS:=fun ρ=>match ρ.getD i .un with
  | .om rows=>(match b ρ with
    | some (.int n)=>(match ixN rows.length n with
      | some r=>(match rows[r]? with
        | some ds=>(match a ρ with
          | some d=>if ds.length<sizeLine then .nx (ρ.set i (.om (rows.set r (ds++[d])))) else .no
          | none=>.no)
        | none=>.no)
      | none=>.no)
    | _=>.no)
  | _=>.no
theorem ss_app2 {i:Nat} {ta tb:TE} {a b:DE} (hb:SemB K tb b) (ha:SemI K ta a):SemS fr K (tDrop (tBM K "list" rAppend (tOp (rIx K) (tVar i) tb) (tCons ta tNil))) (sApp2 i b a):=fun {B Z os ρ σ H E} f p=>by
  unfold sApp2 at p
  split at p
  · rename_i rows e
    split at p
    · rename_i n e2
      split at p
      · rename_i r e3
        split at p
        · rename_i ds e4
          split at p
          · rename_i d e5
            by_cases hz:ds.length<sizeLine
            · rw [if_pos hz] at p
              obtain ⟨x,ps,q,vs,eo,hu,hH,hat,hr,hq,hl,il⟩:=row_at f e e3 e4
              refine ⟨_,join_some hu,hb f e2 fun w H2 s2 i2=>.inl ⟨x,ps.map V.ref,n,.ref q,rfl,i2.isInt,SqL.of (s2 _ _ hH),hat,.inl ⟨rfl,_,SqL.of (s2 _ _ hq)⟩,ha (f.grow s2) e5 fun v H3 s3 i3=>?_⟩⟩
              have s13:=s2.trans s3
              have f3:=f.grow s13
              have hlen:vs.length<sizeLine:=by rw [il.length]; exact hz
              obtain ⟨os',f',k⟩:=f3.mutM (vs':=vs++[v]) (ds':=ds++[d]) e eo hu hr (by rw [List.length_append,List.length_singleton]; omega) ((il.same s13).append (.one i3))
              exact ⟨q,vs,v,rfl,rfl,s13 _ _ hq,hlen,p os' _ _ f' ((Kp.same s13).trans k)⟩
            · rw [if_neg hz] at p; exact p.elim
          · exact p.elim
        · exact p.elim
      · exact p.elim
    · exact p.elim
  · exact p.elim
section
variable {s u b:DS} {ρ:Rho} {W:Wk} {i:Nat} {a e k c:DE} {d:D} {rows:List (List D)} {ds:List D}
theorem wp_setM {es:Rho→Option (List (List D))} (h:es ρ=some rows) (hi:i < ρ.length) (k:W.nx (ρ.set i (.om rows))):Wp (sSetM i es) ρ W:=by unfold Wp sSetM; rw [h]; simp only [if_pos hi]; exact k
theorem wp_aug2 {g:Int→Int→Int} {n m x y:Int} {r j:Nat} (h0:ρ.getD i .un=.om rows) (h2:e ρ=some (.int n)) (h3:ixN rows.length n=some r) (h4:rows[r]?=some ds) (h5:c ρ=some (.int m)) (h6:ixN ds.length m=some j) (h7:ds[j]?=some (.int x)) (h1:a ρ=some (.int y)) (k:W.nx (ρ.set i (.om (rows.set r (ds.set j (.int (g x y))))))):Wp (sAug2 g i e c a) ρ W:=by
  unfold Wp sAug2; rw [h0]; simp only [h1,h2,h3,h4,h5,h6,h7]; exact k
theorem wp_app2 {n:Int} {r:Nat} (h0:ρ.getD i .un=.om rows) (h2:e ρ=some (.int n)) (h3:ixN rows.length n=some r) (h4:rows[r]?=some ds) (h1:a ρ=some d) (h5:ds.length<sizeLine) (k:W.nx (ρ.set i (.om (rows.set r (ds++[d]))))):Wp (sApp2 i e a) ρ W:=by
  unfold Wp sApp2; rw [h0]; simp only [h1,h2,h3,h4,if_pos h5]; exact k
theorem ev_compM {α:Type} {k:Nat} {cs:List Nat} {it:Rho→Option (List D)} {g:DG} {t:Rho→Option Bool} {el:Rho→Option (List D)} (emb:α→D) {xs:List α} (h:it ρ=some (xs.map emb)) (p:α→Bool) (f:α→List D)
    (hs:∀ x∈xs,∃ ρ1,g (emb x) (r0 k cs ρ)=some ρ1∧t ρ1=some (p x)∧(p x=true→el ρ1=some (f x))):dCompM k cs it g t el ρ=some ((xs.filter p).map f):=by
  unfold dCompM
  rw [h]
  show compGoM g t el (r0 k cs ρ) (xs.map emb)=_
  clear h
  induction xs with
  | nil=>rfl
  | cons x r ih =>
    obtain ⟨ρ1,e1,e2,e3⟩:=hs x List.mem_cons_self
    rw [List.map_cons]
    unfold compGoM
    rw [e1]
    dsimp only
    rw [e2]
    have q:=ih fun y hy=>hs y (List.mem_cons_of_mem _ hy)
    cases hp:p x with
    | false=>rw [List.filter_cons_of_neg (by rw [hp]; exact Bool.false_ne_true)]; exact q
    | true =>
      rw [List.filter_cons_of_pos hp,List.map_cons]
      dsimp only
      rw [e3 hp]
      dsimp only
      rw [q]
theorem ev_compM0 {α:Type} {k:Nat} {cs:List Nat} {it:Rho→Option (List D)} {g:DG} {el:Rho→Option (List D)} (emb:α→D) {xs:List α} (h:it ρ=some (xs.map emb)) (f:α→List D)
    (hs:∀ x∈xs,∃ ρ1,g (emb x) (r0 k cs ρ)=some ρ1∧el ρ1=some (f x)):dCompM k cs it g dTrue el ρ=some (xs.map f):=by
  have:=ev_compM (k:=k) (cs:=cs) (g:=g) (t:=dTrue) (el:=el) emb h (fun _=>true) f fun x hx=>let ⟨ρ1,e1,e2⟩:=hs x hx; ⟨ρ1,e1,rfl,fun _=>e2⟩
  rw [this,List.filter_eq_self.mpr fun _ _=>rfl]
end
end
end VL
namespace VL
open PySem L2
open Classical
noncomputable section
variable [Tabs] {K:PySem.W.Frag} {fr:Fm}
inductive Puts (K:PySem.W.Frag):List (TE×TE)→List (DE×DE)→Prop
  | nil:Puts K [] []
  | cons {tc ta:TE} {c a:DE} {l:List (TE×TE)} {l':List (DE×DE)} (ha:SemI K ta a) (hc:SemB K tc c) (r:Puts K l l'):Puts K ((tc,ta)::l) ((c,a)::l')
end
end VL
namespace L2
open PySem PySem.Spec PyProof.Rows
structure Hop (fr ch:List Addr) (h h':Heap):Prop where
  keep:∀ b o,b∉fr→b∉ch→h.get? b=some o→h'.get? b=some o
  slot:∀ b o,b∉ch→h.get? b=some o→∃ sl,h'.get? b=some { o with slots:=sl }
section
variable {M:Model} {A:Around} {E:Value→Shared→Prop} {s:Shared} {base:Heap} {env:Env} {outer:List Env} {L e T:Addr} {cls fl:Value} {Q:Unit→Shared→Prop}
end
structure Out (X:Cx) (pins:List (Addr×Obj)) (H:Hp) (b:Addr):Prop where
  h:H b=none
  s0:X.s₀.heap.get? b=none
  loc:b≠X.env.locals
  cell:∀ x c,X.env.cells.lookup x=some c→c≠b
  pin:∀ p∈X.pn++pins,p.1≠b
section
variable {P:Program} {w:World} {H:Hp} {h:Heap} {a:Addr} {o:HO}
theorem ObjOk.live (x:ObjOk P w H h a o):∃ u,h.get? a=some u:=by
  cases o with
  | lst xs=>obtain ⟨_,_,_,_,e⟩:=x; exact ⟨_,e⟩
  | tup xs=>obtain ⟨_,_,_,ob,e,_⟩:=x; exact ⟨_,e⟩
  | dK kvs=>obtain ⟨_,_,_,_,o,_,_,e,_⟩:=x; exact ⟨_,e⟩
  | dT kvs=>obtain ⟨_,_,_,_,o,_,_,e,_⟩:=x; exact ⟨_,e⟩
  | set S n=>obtain ⟨o,_,_,_,e,_⟩:=x; exact ⟨_,e⟩
  | ins C dx fs=>obtain ⟨_,_,_,e,_⟩:=x; exact ⟨_,e⟩
  | own y=>exact x
  | xd fs=>obtain ⟨_,⟨_,_,_,e,_⟩,_⟩:=x; exact ⟨_,e⟩
  | rng lo hi=>obtain ⟨_,_,_,e⟩:=x; exact ⟨_,e⟩
  | frz ob u=>obtain ⟨e,_⟩:=x; exact ⟨_,e⟩
  | tbl ps=>obtain ⟨_,_,_,_,e,_⟩:=x; exact ⟨_,e⟩
  | met f y=>exact ⟨_,show h.get? a=some _ from x⟩
  | ext φ=>obtain ⟨_,e,_⟩:=x; exact e
end
section
variable {X:Cx} {pins:List (Addr×Obj)} {σ:St} {H H':Hp} {s:Shared}
theorem Inv.out (I:Inv X pins σ H s) (hx:X.ex=[]) {b:Addr} (e:s.heap.get? b=none):Out X pins H b where
  h:=by
    cases q:H b with
    | none=>rfl
    | some o=>obtain ⟨u,hu⟩:=(I.hok b o q).live; rw [e] at hu; cases hu
  s0:=by
    cases q:X.s₀.heap.get? b with
    | none=>rfl
    | some o=>obtain ⟨u,hu⟩:=I.base.there b o q (by rw [hx]; simp); rw [e] at hu; cases hu
  loc:=fun z=>by
    obtain ⟨m,⟨o,_,_,ho,_⟩,_⟩:=I.loc
    rw [← z,e] at ho; cases ho
  cell:=fun x c q z=>by
    obtain ⟨v,o,ho,_⟩:=I.cell x c q
    rw [z,e] at ho; cases ho
  pin:=fun p hp z=>by
    have:=(I.pin p hp).1
    rw [z,e] at this; cases this
end
structure OwnX (X:Cx):Prop where
  stk:X.stack=X.env::X.outer
  fr:X.env.frame=some X.env.locals
  ex:X.ex=[]
section
variable {X:Cx} {pins:List (Addr×Obj)} {σ:St} {H:Hp} {s s':Shared} {E:XK} {e:Value}
end
end L2
namespace L2
open PySem PySem.Spec PyProof.Rows
section
variable {X:Cx} {pins:List (Addr×Obj)} {σ:St} {H:Hp} {s:Shared} {a:Addr} {u:HO}
theorem Inv.track (I:Inv X pins σ H s) (o:Out X pins H a) (ob:ObjOk X.prog X.w (upd H a u) s.heap a u):Inv X pins σ (upd H a u) s:=by
  have ne:∀ b v,H b=some v→b≠a:=fun b v q z=>by rw [z,o.h] at q; cases q
  refine ⟨I.ok,I.os,I.bare,⟨I.base.keep,I.base.slot,fun b v q n hx=>?_,I.base.there,fun b xs q=>?_,fun b v xs q=>?_,fun b ps q=>?_⟩,I.loc,I.cell,?_,fun x c e=>?_,fun p hp=>?_,fun b v q=>?_,I.len⟩
  · rw [upd_ne (fun z=>by rw [z,o.s0] at q; cases q)]; exact I.base.free b v q n hx
  · have r:=I.base.tups b xs q; rw [upd_ne (ne b _ r)]; exact r
  · have r:=I.base.frzs b v xs q; rw [upd_ne (ne b _ r)]; exact r
  · obtain ⟨m,r⟩:=I.base.tbls b ps q; exact ⟨m,by rw [upd_ne (ne b _ r)]; exact r⟩
  · rw [upd_ne (Ne.symm o.loc)]; exact I.free
  · rw [upd_ne (o.cell x c e)]; exact I.freeC x c e
  · obtain ⟨e,n,r⟩:=I.pin p hp
    exact ⟨e,by rw [upd_ne (o.pin p hp)]; exact n,r⟩
  · by_cases hb:b=a
    · subst hb; rw [upd_same] at q; cases q; exact ob
    · rw [upd_ne hb] at q
      exact (I.hok b v q).stay (fun c y _ r=>r) (fun c r=>by rw [upd_ne (ne c _ r)]; exact r) (fun c xs r=>by rw [upd_ne (ne c _ r)]; exact r) fun c o u r=>by rw [upd_ne (ne c _ r)]; exact r
end
section
variable {X:Cx} {k:Nat} {f:Addr} {fd:FuncData} {ps:List Str} {sp:Sp} {x y n v:Str} {e:Expr} {es:List Expr} {t:TA} {F:Value} {iv ie:Nat} {p1 p2 p3 p4 p5 p6 p7 p8 pos:Pos}
end
structure ExcK (K:PySem.W.Frag) (C:Addr):Prop where
  ga:PySem.W.findIn K (.ref C) "__getattribute__" = some (some (.builtin "BaseException.__getattribute__"))
  gk:PySem.W.findIn K (.ref C) "__getattr__" = some none
  hd:PySem.W.hasDictIn K C=true
  ca:PySem.W.findIn K (.ref C) "__class__" = some (some (.builtin "object.__class__"))
  sp:PySem.W.specialIn K (.builtin "object.__class__") "__get__" = some (some (.builtin "getset_descriptor.__get__"))
  tk:PySem.W.takesIn K (.builtin "object.__class__")=some true
  mro:PySem.W.mroIn K C (.type "object")=some true
  mrb:PySem.W.mroIn K C (.type "BaseException")=some true
end L2
namespace L2
open PySem PySem.Spec PyProof.Rows
inductive PParts (X:Cx):List Expr→List TE→Prop
  | nil:PParts X [] []
  | text {x:Str} {j p es ts} (hx:x.length≤1000) (h:PParts X es ts):PParts X (.Constant (.str x) j p::es) ts
  | val {e:Expr} {p es ts} {t:TE} (he:PE X e t) (h:PParts X es ts):PParts X (.FormattedValue e (-1) none p::es) (t::ts)
end L2
namespace VL
open PySem L2
open Classical
noncomputable section
variable [Tabs] {K:PySem.W.Frag}
variable {E:XK} {C:Addr}
inductive SemJ (K:PySem.W.Frag):List TE→List DE→Prop
  | nil:SemJ K [] []
  | cons {t ts a as} (h:SemB K t a) (r:SemJ K ts as):SemJ K (t::ts) (a::as)
theorem same_new {H:Hp} {a:Addr} {o:HO} (h:H a=none):Same H (upd H a o):=fun b u e=>by rw [upd_ne (ne_of_none e h)]; exact e
variable {iv ie:Nat}
end
end VL
namespace VL
open PySem L2
open Classical
noncomputable section
variable [Tabs] {K:PySem.W.Frag} {fr:Fm}
noncomputable def dMNil:Rho→Option (List (List D)):=fun _=>some []
theorem sm_nil:SemM K (tLst tNil) dMNil:=fun {B Z os ρ σ H Q rows} f q k=>by
  cases q
  exact ⟨Nat.zero_le _,fun p hp=>k p [] _ (same_new hp) hp (fun _ z=>nomatch z) (List.nodup_cons.mpr ⟨(fun z=>by cases z),List.nodup_nil⟩) upd_same (Nat.zero_le _) .nil⟩
@[irreducible] noncomputable def sAppM (i:Nat) (a:Rho→Option (List D)):DS:=fun ρ=>match ρ.getD i .un with
  | .om rows=>(match a ρ with
    | some ds=>if rows.length<sizeLine then .nx (ρ.set i (.om (rows++[ds]))) else .no
    | none=>.no)
  | _=>.no
theorem ss_appM {i:Nat} {ta:TE} {a:Rho→Option (List D)} (ha:SemF K ta a):SemS fr K (tDrop (tBM K "list" rAppend (tVar i) (tCons ta tNil))) (sAppM i a):=fun {B Z os ρ σ H E} f p=>by
  unfold sAppM at p
  split at p
  case h_2=>exact p.elim
  case h_1 rows e =>
    split at p
    case h_2=>exact p.elim
    case h_1 ds e1 =>
      by_cases hz:rows.length<sizeLine
      · rw [if_pos hz] at p
        obtain ⟨o,ps,eo,hu,hH,hl,hln,pr⟩:=om_of f e
        refine ⟨_,join_some hu,.inl ⟨rfl,_,SqL.of hH⟩,ha f e1 fun x vs H1 s1 hx hx1 hlv iv=>?_⟩
        have hi:=getD_lt e (by intro z; cases z)
        have hn:=f.nd i
        rw [eo] at hn
        have hxo:x∉o::ps:=fun z=>by
          obtain ⟨xs,q⟩:=(f.sl i).dom (by rw [eo]; exact z)
          rw [hx] at q; cases q
        have hxo1:o≠x:=fun z=>hxo (by rw [z]; exact List.mem_cons_self)
        have hoi:o∈os i:=by rw [eo]; exact List.mem_cons_self
        have sub:∀ c,tot Z (putO os i (o::(ps++[x]))) c→c=x∨tot Z os c:=by
          rintro c (z | ⟨j,z⟩)
          · exact .inr (.inl z)
          · by_cases hj:j=i
            · subst hj
              rw [putO_same] at z
              rcases List.mem_cons.mp z with z | z
              · exact .inr (.inr ⟨j,by rw [z]; exact hoi⟩)
              · rcases List.mem_append.mp z with z | z
                · exact .inr (.inr ⟨j,by rw [eo]; exact List.mem_cons_of_mem _ z⟩)
                · exact .inl (List.mem_singleton.mp z)
            · rw [putO_ne hj] at z; exact .inr (.inr ⟨j,z⟩)
        have kp:Kp (tot Z os) H (tot Z (putO os i (o::(ps++[x])))) (upd H1 o (.lst ((ps++[x]).map V.ref))):=fun c u q z=>by
          refine ⟨by rw [upd_ne (fun w=>z (.inr ⟨i,by rw [w]; exact hoi⟩))]; exact s1 _ _ q,fun w=>?_⟩
          rcases sub c w with rfl | w
          · rw [hx] at q; cases q
          · exact z w
        have kpx:Kp (fun c=>c=x∨tot Z os c) H1 (tot Z (putO os i (o::(ps++[x])))) (upd H1 o (.lst ((ps++[x]).map V.ref))):=fun c u q z=>by
          refine ⟨by rw [upd_ne (fun w=>z (.inr (.inr ⟨i,by rw [w]; exact hoi⟩)))]; exact q,fun w=>z (sub c w)⟩
        have hpo:∀ q∈ps,o≠q:=fun q hq z=>(List.nodup_cons.mp hn).1 (by rw [z]; exact hq)
        have st:=f.step (H':=upd H1 o (.lst ((ps++[x]).map V.ref))) (i:=i) hi (o:=o::(ps++[x])) (s:=.om (rows++[ds])) (v:=some (.ref o)) (fun c u q nn=>by rw [upd_ne (fun z=>nn (by rw [z]; exact hoi))]; exact s1 _ _ q) (fun c hc=>?_)
          (List.nodup_cons.mpr ⟨fun z=>?_,?_⟩) (fun c hc=>?_)
          ⟨o,ps++[x],rfl,rfl,upd_same,by rw [List.length_append,List.length_singleton]; omega,Paired.append (Paired.mono pr fun q ds' hq ⟨us,h1,h2,h3⟩=>⟨us,by rw [upd_ne (Ne.symm (hpo q hq))]; exact s1 _ _ h1,h2,h3.kp kp⟩) (.cons ⟨vs,by rw [upd_ne (Ne.symm hxo1)]; exact hx1,hlv,iv.kp kpx⟩ .nil)⟩
        · rw [set_self hu] at st
          refine ⟨o,ps.map V.ref,.ref x,rfl,rfl,s1 _ _ hH,by rw [List.length_map,hln]; exact hz,?_⟩
          have em:ps.map V.ref++[V.ref x]=(ps++[x]).map V.ref:=by rw [List.map_append]; rfl
          rw [em]
          exact p _ _ _ st.1 st.2
        · by_cases hc':c=o
          · rw [hc']; exact ⟨_,upd_same⟩
          · obtain ⟨xs,q⟩:=(f.sl i).dom hc
            exact ⟨_,by rw [upd_ne hc']; exact s1 _ _ q⟩
        · rcases List.mem_append.mp z with z | z
          · exact (List.nodup_cons.mp hn).1 z
          · exact hxo1 (List.mem_singleton.mp z)
        · exact List.nodup_append.mpr ⟨(List.nodup_cons.mp hn).2,List.nodup_cons.mpr ⟨(fun z=>by cases z),List.nodup_nil⟩,fun a ha b hb z=>by
            rw [List.mem_singleton.mp hb] at z
            exact hxo (List.mem_cons_of_mem _ (by rw [← z]; exact ha))⟩
        · rcases List.mem_cons.mp hc with z | z
          · exact .inl (by rw [z]; exact hoi)
          · rcases List.mem_append.mp z with z | z
            · exact .inl (by rw [eo]; exact List.mem_cons_of_mem _ z)
            · exact .inr (by rw [List.mem_singleton.mp z]; exact hx)
      · rw [if_neg hz] at p; exact p.elim
theorem wp_appM {i:Nat} {a:Rho→Option (List D)} {ρ:Rho} {rows:List (List D)} {ds:List D} {W:Wk} (h0:ρ.getD i .un=.om rows) (h:a ρ=some ds) (hl:rows.length<sizeLine) (k:W.nx (ρ.set i (.om (rows++[ds])))):Wp (sAppM i a) ρ W:=by
  unfold Wp sAppM; rw [h0]; simp only [h,if_pos hl]; exact k
end
end VL
namespace Srt
open PySem PySem.W PyProof.Rows
def KOk {α:Type} (lt:Nat→Nat→Bool) (n:Nat):KasT α→(α→Prop)→Prop
  | .ret a,Q=>Q a
  | .ask i j k,Q=>i<n∧j<n∧KOk lt n (k (lt i j)) Q
section
variable {lt:Nat→Nat→Bool} {N:Nat}
theorem KOk.bind {α β:Type} {f:α→KasT β} {Q:β→Prop}:∀ (t:KasT α),KOk lt N t (fun a=>KOk lt N (f a) Q)→KOk lt N (t.bind f) Q
  | .ret _,h=>h
  | .ask _ _ k,h=>⟨h.1,h.2.1,KOk.bind (k _) h.2.2⟩
theorem KOk.mono {α:Type} {Q Q':α→Prop} (hq:∀ a,Q a→Q' a):∀ (t:KasT α),KOk lt N t Q→KOk lt N t Q'
  | .ret a,h=>hq a h
  | .ask _ _ k,h=>⟨h.1,h.2.1,KOk.mono hq (k _) h.2.2⟩
theorem KOk.wp {α:Type} {cmp:Nat→Nat→(Bool→Shared→Prop)→Shared→Prop} {s:Shared} (hc:∀ i j (C:Bool→Shared→Prop),i<N→j<N→C (lt i j) s→cmp i j C s) {Q:α→Shared→Prop} :
    ∀ (t:KasT α),KOk lt N t (fun a=>Q a s)→t.kasWp cmp Q s
  | .ret _,h=>h
  | .ask i j k,h=>hc i j _ h.1 h.2.1 (KOk.wp hc (k _) h.2.2)
structure Ord (lt:Nat→Nat→Bool):Prop where
  tr:∀ a b c,lt b a=false→lt c b=false→lt c a=false
  as:∀ a b,lt a b=true→lt b a=false
abbrev g (p:Array Nat) (i:Nat):Nat:=p.getD i 0
def Up (lt:Nat→Nat→Bool) (p:Array Nat) (k:Nat):Prop:=∀ i j,i≤j→j<k→lt (g p j) (g p i)=false
def Dn (lt:Nat→Nat→Bool) (p:Array Nat) (k:Nat):Prop:=∀ i j,i≤j→j<k→lt (g p i) (g p j)=false
def Eqv (lt:Nat→Nat→Bool) (p:Array Nat) (a b:Nat):Prop:=∀ i j,a≤i→i<b→a≤j→j<b→lt (g p i) (g p j)=false
def Lo (N:Nat) (p:Array Nat):Prop:=p.size=N∧∀ i,g p i<N
theorem Lo.of_perm {p q:Array Nat} (h0:0<N) (h:Lo N p) (hp:q.Perm p):Lo N q:=by
  refine ⟨hp.size_eq.trans h.1,fun i=>?_⟩
  unfold g
  by_cases c:i<q.size
  · have m:q[i]∈p:=hp.mem_iff.mp (Array.getElem_mem c)
    obtain ⟨j,hj,e⟩:=Array.mem_iff_getElem.mp m
    have:=h.2 j
    unfold g at this
    rw [Array.getD_eq_getD_getElem?,Array.getElem?_eq_getElem hj] at this
    rw [Array.getD_eq_getD_getElem?,Array.getElem?_eq_getElem c]
    show q[i]<N
    rw [← e]
    exact this
  · rw [Array.getD_eq_getD_getElem?,Array.getElem?_eq_none (by omega)]
    exact h0
theorem g_rev {p:Array Nat} {i j:Nat} (hj:j≤p.size) (k:Nat):g (kas_rev p i j) k=if i≤k∧k<j then g p (i+j-1-k) else g p k:=by
  unfold g kas_rev
  rw [Array.getD_eq_getD_getElem?,getElem?_mirror_all hj]
  by_cases c:i≤k∧k<j
  · rw [if_pos c,if_pos c,Array.getD_eq_getD_getElem?]
  · rw [if_neg c,if_neg c,Array.getD_eq_getD_getElem?]
theorem g_bub {p:Array Nat} {s d:Nat} (hs:s<p.size) (hd:d≤s) (k:Nat):g (bubble p s d) k=if k=s-d then g p s else if s-d<k∧k≤s then g p (k-1) else g p k:=by
  unfold g
  rw [Array.getD_eq_getD_getElem?,getElem?_bubble hs d hd]
  by_cases c:k=s-d
  · rw [if_pos c,if_pos c,Array.getD_eq_getD_getElem?]
  · rw [if_neg c,if_neg c]
    by_cases c2:s-d<k∧k≤s
    · rw [if_pos c2,if_pos c2,Array.getD_eq_getD_getElem?]
    · rw [if_neg c2,if_neg c2,Array.getD_eq_getD_getElem?]
theorem rev_perm {p:Array Nat} {i j:Nat}:(kas_rev p i j).Perm p:=mirror_perm _ _ _ _
theorem irr (o:Ord lt) (a:Nat):lt a a=false:=by
  cases h:lt a a with
  | false=>rfl
  | true=>rw [o.as a a h] at h; cases h
theorem asc_ok (o:Ord lt) {p:Array Nat} (hp:Lo N p):∀ (f n:Nat),1≤n→Up lt p n→KOk lt N (kas_asc p f n) (fun m=>n≤m∧m≤n+f∧Up lt p m∧(m<n+f→lt (g p m) (g p (m-1))=true))
  | 0,n,_,h=>⟨Nat.le_refl _,Nat.le_refl _,h,fun z=>by omega⟩
  | f+1,n,h1,h=>by
    refine ⟨hp.2 n,hp.2 (n-1),?_⟩
    cases c:lt (p.getD n 0) (p.getD (n-1) 0) with
    | true =>
      dsimp only
      rw [if_pos rfl]
      exact ⟨Nat.le_refl _,by omega,h,fun _=>c⟩
    | false =>
      dsimp only
      rw [if_neg Bool.false_ne_true]
      refine KOk.mono (fun m q=>⟨by omega,by omega,q.2.2.1,fun z=>q.2.2.2 (by omega)⟩) _ (asc_ok o hp f (n+1) (by omega) fun i j hij hj=>?_)
      by_cases e:j<n
      · exact h i j hij e
      · have:j=n:=by omega
        subst this
        by_cases e2:i=j
        · subst e2; exact irr o _
        · exact o.tr _ (g p (j-1)) _ (h i (j-1) (by omega) (by omega)) c
theorem desc_ok (o:Ord lt) (h0:0<N):∀ (f:Nat) (p:Array Nat) (n q:Nat),Lo N p→1≤n→n+f≤N→q+1≤n→Dn lt p n→Eqv lt p (n-(q+1)) n →
    KOk lt N (kas_desc f p n q) (fun r=>r.1.Perm p∧Dn lt r.1 r.2.1∧n≤r.2.1∧r.2.1≤n+f∧r.2.2+1≤r.2.1∧Eqv lt r.1 (r.2.1-(r.2.2+1)) r.2.1)
  | 0,p,n,q,_,_,_,hq,hd,he=>⟨Array.Perm.refl _,hd,Nat.le_refl _,Nat.le_refl _,hq,he⟩
  | f+1,p,n,q,hp,h1,hn,hq,hd,he=>by
    refine ⟨hp.2 n,hp.2 (n-1),?_⟩
    cases c:lt (p.getD n 0) (p.getD (n-1) 0) with
    | true =>
      dsimp only
      rw [if_pos rfl]
      by_cases hq0:q > 0
      · rw [if_pos hq0]
        have hsz:n≤p.size:=by rw [hp.1]; omega
        have gr:∀ k,g (kas_rev p (n-(q+1)) n) k=if n-(q+1)≤k∧k<n then g p (n-(q+1)+n-1-k) else g p k:=g_rev hsz
        refine KOk.mono (fun r z=>⟨z.1.trans rev_perm,z.2.1,by omega,by omega,z.2.2.2.2.1,z.2.2.2.2.2⟩) _ (desc_ok o h0 f _ (n+1) 0 (hp.of_perm h0 rev_perm) (by omega) (by omega) (by omega) (fun i j hij hj=>?_) fun i j hi1 hi2 hj1 hj2=>?_)
        · rw [gr i,gr j]
          have key:∀ k,k<n→lt (g p k) (g p n)=false:=fun k hk=>o.tr _ (g p (n-1)) _ (o.as _ _ c) (hd k (n-1) (by omega) (by omega))
          by_cases cj:n-(q+1)≤j∧j<n
          · rw [if_pos cj]
            by_cases ci:n-(q+1)≤i∧i<n
            · rw [if_pos ci]; exact he _ _ (by omega) (by omega) (by omega) (by omega)
            · rw [if_neg ci]; exact hd _ _ (by omega) (by omega)
          · rw [if_neg cj]
            by_cases ci:n-(q+1)≤i∧i<n
            · rw [if_pos ci]
              have:j=n:=by omega
              subst this
              exact key _ (by omega)
            · rw [if_neg ci]
              by_cases e:j=n
              · subst e
                by_cases e2:i=j
                · subst e2; exact irr o _
                · exact key _ (by omega)
              · exact hd _ _ hij (by omega)
        · have e1:i=n:=by omega
          have e2:j=n:=by omega
          subst e1; subst e2
          exact irr o _
      · rw [if_neg hq0]
        refine KOk.mono (fun r z=>⟨z.1,z.2.1,by omega,by omega,z.2.2.2.2.1,z.2.2.2.2.2⟩) _ (desc_ok o h0 f p (n+1) 0 hp (by omega) (by omega) (by omega) (fun i j hij hj=>?_) fun i j hi1 hi2 hj1 hj2=>?_)
        · by_cases e:j=n
          · subst e
            by_cases e2:i=j
            · subst e2; exact irr o _
            · exact o.tr _ (g p (j-1)) _ (o.as _ _ c) (hd i (j-1) (by omega) (by omega))
          · exact hd _ _ hij (by omega)
        · have e1:i=n:=by omega
          have e2:j=n:=by omega
          subst e1; subst e2
          exact irr o _
    | false =>
      dsimp only
      rw [if_neg Bool.false_ne_true]
      refine ⟨hp.2 (n-1),hp.2 n,?_⟩
      cases d:lt (p.getD (n-1) 0) (p.getD n 0) with
      | true =>
        dsimp only
        rw [if_pos rfl]
        exact ⟨Array.Perm.refl _,hd,Nat.le_refl _,Nat.le_add_right _ _,hq,he⟩
      | false =>
        dsimp only
        rw [if_neg Bool.false_ne_true]
        have key:∀ k,k<n→lt (g p k) (g p n)=false:=fun k hk=>o.tr _ (g p (n-1)) _ d (hd k (n-1) (by omega) (by omega))
        have key2:∀ k,n-(q+1)≤k→k<n→lt (g p n) (g p k)=false:=fun k hk1 hk2=>o.tr _ (g p (n-1)) _ (he (n-1) k (by omega) (by omega) hk1 hk2) c
        refine KOk.mono (fun r z=>⟨z.1,z.2.1,by omega,by omega,z.2.2.2.2.1,z.2.2.2.2.2⟩) _ (desc_ok o h0 f p (n+1) (q+1) hp (by omega) (by omega) (by omega) (fun i j hij hj=>?_) fun i j hi1 hi2 hj1 hj2=>?_)
        · by_cases e:j=n
          · subst e
            by_cases e2:i=j
            · subst e2; exact irr o _
            · exact key _ (by omega)
          · exact hd _ _ hij (by omega)
        · by_cases e:i=n
          · by_cases e2:j=n
            · rw [e,e2]; exact irr o _
            · rw [e]; exact key2 _ (by omega) (by omega)
          · by_cases e2:j=n
            · rw [e2]; exact key _ (by omega)
            · exact he _ _ (by omega) (by omega) (by omega) (by omega)
theorem tail_ok (o:Ord lt) (h0:0<N) {p:Array Nat} {n nrem:Nat} (hp:Lo N p) (h1:1≤n) (hn:n≤nrem) (hr:nrem≤N) (hd:Dn lt p n) :
    KOk lt N (kas_tail3 n nrem p) (fun r=>r.2.Perm p∧Up lt r.2 r.1∧1≤r.1∧r.1≤nrem):=by
  have gr:∀ k,g (kas_rev p 0 n) k=if 0≤k∧k<n then g p (0+n-1-k) else g p k:=g_rev (by rw [hp.1]; omega)
  refine KOk.bind _ (KOk.mono (fun m z=>?_) _ (asc_ok o (hp.of_perm h0 rev_perm) (nrem-n) n h1 fun i j hij hj=>?_))
  · exact ⟨rev_perm,z.2.2.1,by omega,by omega⟩
  · rw [gr i,gr j,if_pos (by omega),if_pos (by omega)]
    exact hd _ _ (by omega) (by omega)
theorem descPart_ok (o:Ord lt) (h0:0<N) {p:Array Nat} {n nrem:Nat} (hp:Lo N p) (h1:1≤n) (hn:n+1≤nrem) (hr:nrem≤N) (hd:Dn lt p (n+1)) :
    KOk lt N (kas_descPart n nrem p) (fun r=>r.2.Perm p∧Up lt r.2 r.1∧1≤r.1∧r.1≤nrem):=by
  refine KOk.bind _ (KOk.mono (fun r z=>?_) _ (desc_ok o h0 (nrem-(n+1)) p (n+1) 0 hp (by omega) (by omega) (by omega) hd fun i j hi1 hi2 hj1 hj2=>?_))
  · obtain ⟨z1,z2,z3,z4,z5,z6⟩:=z
    have hp1:=hp.of_perm h0 z1
    by_cases c:r.2.2 > 0
    · rw [if_pos c]
      have hsz:r.2.1≤r.1.size:=by rw [hp1.1]; omega
      have gr:∀ k,g (kas_rev r.1 (r.2.1-(r.2.2+1)) r.2.1) k=if r.2.1-(r.2.2+1)≤k∧k<r.2.1 then g r.1 (r.2.1-(r.2.2+1)+r.2.1-1-k) else g r.1 k:=g_rev hsz
      refine KOk.mono (fun t q=>⟨q.1.trans (rev_perm.trans z1),q.2⟩) _ (tail_ok o h0 (hp1.of_perm h0 rev_perm) (by omega) (by omega) hr fun i j hij hj=>?_)
      rw [gr i,gr j]
      by_cases cj:r.2.1-(r.2.2+1)≤j∧j<r.2.1
      · rw [if_pos cj]
        by_cases ci:r.2.1-(r.2.2+1)≤i∧i<r.2.1
        · rw [if_pos ci]; exact z6 _ _ (by omega) (by omega) (by omega) (by omega)
        · rw [if_neg ci]; exact z2 _ _ (by omega) (by omega)
      · rw [if_neg cj,if_neg (by omega)]; exact z2 _ _ hij (by omega)
    · rw [if_neg c]
      exact KOk.mono (fun t q=>⟨q.1.trans z1,q.2⟩) _ (tail_ok o h0 hp1 (by omega) (by omega) hr z2)
  · have e1:i=n:=by omega
    have e2:j=n:=by omega
    subst e1; subst e2
    exact irr o _
theorem count_ok (o:Ord lt) {p:Array Nat} (h0:0<N) (hp:Lo N p) :
    KOk lt N (kas_count N p) (fun r=>r.2.Perm p∧Up lt r.2 r.1∧1≤r.1∧r.1≤N):=by
  refine KOk.bind _ (KOk.mono (fun n z=>?_) _ (asc_ok o hp (N-1) 1 (Nat.le_refl _) fun i j hij hj=>?_))
  · obtain ⟨z1,z2,z3,z4⟩:=z
    by_cases c:(n==N)=true
    · rw [if_pos c]
      have:=eq_of_beq c
      exact ⟨Array.Perm.refl _,z3,z1,by omega⟩
    · rw [if_neg c]
      have cn:n≠N:=fun e=>c (by rw [e]; exact beq_self_eq_true _)
      have z5:=z4 (by omega)
      by_cases c2:n > 1
      · rw [if_pos c2]
        refine ⟨hp.2 0,hp.2 (n-1),?_⟩
        cases d:lt (p.getD 0 0) (p.getD (n-1) 0) with
        | true =>
          dsimp only
          rw [if_pos rfl]
          exact ⟨Array.Perm.refl _,z3,z1,by omega⟩
        | false =>
          dsimp only
          rw [if_neg Bool.false_ne_true]
          have gr:∀ k,g (kas_rev p 0 n) k=if 0≤k∧k<n then g p (0+n-1-k) else g p k:=g_rev (by rw [hp.1]; omega)
          have eq:∀ i j,i<n→j<n→lt (g p i) (g p j)=false:=fun i j hi hj=>by
            have a1:lt (g p (n-1)) (g p j)=false:=z3 j (n-1) (by omega) (by omega)
            have a2:lt (g p i) (g p 0)=false:=z3 0 i (by omega) hi
            exact o.tr _ (g p 0) _ (o.tr _ (g p (n-1)) _ a1 d) a2
          refine KOk.mono (fun t q=>⟨q.1.trans rev_perm,q.2⟩) _ (descPart_ok o h0 (hp.of_perm h0 rev_perm) (by omega) (by omega) (Nat.le_refl _) fun i j hij hj=>?_)
          rw [gr i,gr j]
          by_cases cj:j<n
          · rw [if_pos (by omega),if_pos (by omega)]; exact eq _ _ (by omega) (by omega)
          · have:j=n:=by omega
            subst this
            rw [if_neg (show ¬ (0≤j∧j<j) by omega)]
            by_cases ci:i<j
            · rw [if_pos (by omega)]
              exact o.tr _ (g p (j-1)) _ (o.as _ _ z5) (eq _ _ (by omega) (by omega))
            · have:i=j:=by omega
              subst this
              rw [if_neg (by omega)]
              exact irr o _
      · rw [if_neg c2]
        refine descPart_ok o h0 hp (by omega) (by omega) (Nat.le_refl _) fun i j hij hj=>?_
        have n1:n=1:=by omega
        subst n1
        by_cases ci:i=j
        · subst ci; exact irr o _
        · have e1:i=0:=by omega
          have e2:j=1:=by omega
          subst e1; subst e2
          exact o.as _ _ z5
  · have e1:i=j:=by omega
    subst e1
    exact irr o _
theorem place_ok (o:Ord lt) {p:Array Nat} {k:Nat} (hp:Lo N p) (hu:Up lt p k):∀ (f l r:Nat),l≤r→r≤k→r-l≤f→(∀ i,i<l→lt (g p k) (g p i)=false)→(∀ i,r≤i→i<k→lt (g p k) (g p i)=true) →
    KOk lt N (kas_place p k f l r) (fun m=>m≤k∧(∀ i,i<m→lt (g p k) (g p i)=false)∧∀ i,m≤i→i<k→lt (g p k) (g p i)=true)
  | 0,l,r,h1,h2,h3,h4,h5=>⟨by omega,h4,fun i hi=>h5 i (by omega)⟩
  | f+1,l,r,h1,h2,h3,h4,h5=>by
    unfold kas_place
    by_cases c:l ≥ r
    · rw [if_pos c]; exact ⟨by omega,h4,fun i hi=>h5 i (by omega)⟩
    · rw [if_neg c]
      refine ⟨hp.2 k,hp.2 ((l+r) / 2),?_⟩
      cases d:lt (p.getD k 0) (p.getD ((l+r) / 2) 0) with
      | true =>
        dsimp only
        rw [if_pos rfl]
        refine place_ok o hp hu f l ((l+r) / 2) (by omega) (by omega) (by omega) h4 fun i hi1 hi2=>?_
        cases e:lt (g p k) (g p i) with
        | true=>rfl
        | false =>
          have:=o.tr _ (g p i) _ (hu ((l+r) / 2) i hi1 hi2) e
          rw [show lt (g p k) (g p ((l+r) / 2))=true from d] at this
          cases this
      | false =>
        dsimp only
        rw [if_neg Bool.false_ne_true]
        exact place_ok o hp hu f ((l+r) / 2+1) r (by omega) h2 (by omega) (fun i hi=>o.tr _ (g p ((l+r) / 2)) _ (hu i ((l+r) / 2) (by omega) (by omega)) d) h5
theorem bin_ok (o:Ord lt) (h0:0<N):∀ (f:Nat) (p:Array Nat) (k:Nat),Lo N p→k+f=N→Up lt p k→KOk lt N (kas_bin f p k) (fun q=>q.Perm p∧Up lt q N)
  | 0,p,k,_,hk,hu=>⟨Array.Perm.refl _,by rw [← hk]; exact hu⟩
  | f+1,p,k,hp,hk,hu=>by
    refine KOk.bind _ (KOk.mono (fun m z=>?_) _ (place_ok o hp hu k 0 k (Nat.zero_le _) (Nat.le_refl _) (by omega) (fun i hi=>by omega) fun i hi1 hi2=>by omega))
    obtain ⟨z1,z2,z3⟩:=z
    have gb:∀ j,g (bubble p k (k-m)) j=if j=k-(k-m) then g p k else if k-(k-m)<j∧j≤k then g p (j-1) else g p j:=g_bub (by rw [hp.1]; omega) (by omega)
    have em:k-(k-m)=m:=by omega
    rw [em] at gb
    refine KOk.mono (fun q y=>⟨y.1.trans (bubble_perm _ _ _),y.2⟩) _ (bin_ok o h0 f _ (k+1) (hp.of_perm h0 (bubble_perm _ _ _)) (by omega) fun i j hij hj=>?_)
    rw [gb i,gb j]
    by_cases cj:j=m
    · rw [if_pos cj]
      by_cases ci:i=m
      · rw [if_pos ci]; exact irr o _
      · rw [if_neg ci,if_neg (by omega)]; exact z2 i (by omega)
    · rw [if_neg cj]
      by_cases cj2:m<j∧j≤k
      · rw [if_pos cj2]
        by_cases ci:i=m
        · rw [if_pos ci]; exact o.as _ _ (z3 (j-1) (by omega) (by omega))
        · rw [if_neg ci]
          by_cases ci2:m<i∧i≤k
          · rw [if_pos ci2]; exact hu _ _ (by omega) (by omega)
          · rw [if_neg ci2]; exact hu _ _ (by omega) (by omega)
      · rw [if_neg cj2]
        rw [if_neg (by omega),if_neg (by omega)]
        exact hu _ _ hij (by omega)
theorem sort_ok (o:Ord lt) (h0:0<N):KOk lt N (kas_sort N) (fun p=>p.toList.Perm (List.range N)∧Up lt p N):=by
  have hp:Lo N (List.toArray (List.range N)):=by
    refine ⟨by simp,fun i=>?_⟩
    unfold g
    rw [Array.getD_eq_getD_getElem?]
    by_cases c:i<N
    · simp [c]
    · rw [Array.getElem?_eq_none (by simpa using c)]
      exact h0
  have done:∀ q:Array Nat,q.Perm (List.toArray (List.range N))→q.toList.Perm (List.range N):=fun q h=>by
    have:=Array.perm_iff_toList_perm.mp h
    simpa using this
  refine KOk.bind _ (KOk.mono (fun r z=>?_) _ (count_ok o h0 hp))
  obtain ⟨z1,z2,z3,z4⟩:=z
  by_cases c:r.1<N
  · rw [if_pos c]
    have e:max r.1 1=r.1:=by omega
    rw [e]
    exact KOk.mono (fun q y=>⟨done q (y.1.trans z1),y.2⟩) _ (bin_ok o h0 (N-r.1) r.2 r.1 (hp.of_perm h0 z1) (by omega) z2)
  · rw [if_neg c]
    have e:r.1=N:=by omega
    rw [e] at z2
    exact ⟨done _ z1,z2⟩
end
end Srt
namespace L2
open PySem PySem.Spec PyProof.Rows
def lexLt:List Int→List Int→Bool
  | [],[]=>false
  | [],_::_=>true
  | _::_,[]=>false
  | x::xs,y::ys=>if x=y then lexLt xs ys else decide (x<y)
theorem lex_as:∀ a b:List Int,lexLt a b=true→lexLt b a=false
  | [],[],h=>by cases h
  | [],_::_,_=>rfl
  | _::_,[],h=>by cases h
  | x::xs,y::ys,h=>by
    unfold lexLt at h ⊢
    by_cases c:x=y
    · subst c; rw [if_pos rfl] at h ⊢; exact lex_as xs ys h
    · rw [if_neg c] at h
      rw [if_neg (Ne.symm c)]
      have:=of_decide_eq_true h
      exact decide_eq_false (by omega)
theorem lex_tr:∀ a b c:List Int,lexLt b a=false→lexLt c b=false→lexLt c a=false
  | [],[],[],_,_=>rfl
  | [],[],_::_,_,_=>rfl
  | [],_::_,[],_,h=>by cases h
  | [],_::_,_::_,_,_=>rfl
  | _::_,[],_,h,_=>by cases h
  | _::_,_::_,[],_,h=>by cases h
  | x::xs,y::ys,z::zs,h1,h2=>by
    unfold lexLt at h1 h2 ⊢
    by_cases c1:y=x
    · subst c1
      rw [if_pos rfl] at h1
      by_cases c2:z=y
      · subst c2; rw [if_pos rfl] at h2 ⊢; exact lex_tr xs ys zs h1 h2
      · rw [if_neg c2] at h2 ⊢; exact h2
    · rw [if_neg c1] at h1
      have k1:=of_decide_eq_false h1
      by_cases c2:z=y
      · subst c2
        rw [if_neg c1]
        exact h1
      · rw [if_neg c2] at h2
        have k2:=of_decide_eq_false h2
        rw [if_neg (by omega)]
        exact decide_eq_false (by omega)
theorem lex_ord (f:Nat→List Int):Srt.Ord fun i j=>lexLt (f i) (f j):=⟨fun a b c h1 h2=>lex_tr _ _ _ h1 h2,fun a b h=>lex_as _ _ h⟩
theorem lex_eq:∀ a b:List Int,lexLt a b=false→lexLt b a=false→a=b
  | [],[],_,_=>rfl
  | [],_::_,h,_=>by cases h
  | _::_,[],_,h=>by cases h
  | x::xs,y::ys,h1,h2=>by
    unfold lexLt at h1 h2
    by_cases c:x=y
    · subst c; rw [if_pos rfl] at h1 h2; rw [lex_eq xs ys h1 h2]
    · rw [if_neg c] at h1
      rw [if_neg (Ne.symm c)] at h2
      have:=of_decide_eq_false h1
      have:=of_decide_eq_false h2
      omega
section
variable {X:Cx} {pins:List (Addr×Obj)} {σ:St} {H:Hp} {s:Shared}
theorem Inv.newsLaid {h':Heap} {D:Addr} {o:Obj} {u:HO} {m:Str→Option Value} {t':Nat} (I:Inv X pins σ H s) (hx:X.ex=[]) (F:Fr X.base X.env.locals s.heap m) (F':Fr X.base X.env.locals h' m)
    (N':News X.base X.env.locals h' ((D,o)::allNews X.base s.heap X.env.locals)) (hD:s.heap.get? D=none) (new:ObjOk X.prog X.w (upd H D u) h' D u):Inv X pins σ (upd H D u) { s with heap:=h',toks:=t' }:=by
  have keep:∀ b v,b≠X.env.locals→s.heap.get? b=some v→h'.get? b=some v:=fun b v hb q=>by
    cases e:X.base.get? b with
    | some y =>
      have e1:=F.keep b y e
      rw [q] at e1
      cases e1
      exact F'.keep b v e
    | none=>exact (N' (b,v) (List.mem_cons_of_mem _ (mem_allNews hb e q))).1
  obtain ⟨oL,es,ep,hL,rL⟩:=F.ns
  have nL:∀ b w,H b=some w→b≠X.env.locals:=fun b w q z=>by rw [z,I.free] at q; cases q
  have I1:Inv X pins σ H { s with heap:=h',gens:=s.gens,drawn:=s.drawn,toks:=t' }:=by
    refine I.step (ch:=[]) (fun _ z=>nomatch z) (fun b v h1 _ _ q _=>keep b v h1 q) (fun b v h1 _ _ q _=>⟨v.slots,keep b v h1 q⟩) (fun _ _ _ _ n=>n) (fun b v _ q=>?_) (fun _ _ q=>q) (fun _ _ _ q=>q) (fun b ps q=>⟨#[],by rw [q]; simp⟩) (fun m' hm=>?_) (fun b w q=>?_) I.bare
    · by_cases hb:b=X.env.locals
      · subst hb
        obtain ⟨o2,_,_,h2,_⟩:=F'.ns
        exact ⟨o2,h2⟩
      · exact ⟨v,keep b v hb q⟩
    · have e1:=hm.eq_nsMap
      have e2:=F.ns.eq_nsMap
      rw [e1,← e2]
      exact F'.ns
    · refine (I.hok b w q).stay (fun c y hc r=>keep c y ?_ r) (fun _ r=>r) fun _ _ r=>r
      rcases hc with rfl | hc
      · exact nL _ _ q
      · exact nL _ _ hc
  exact I1.track (I.out hx hD) new
end
theorem refs_of {ps:List Addr}:∀ {us:List Value},Vals (ps.map V.ref) us→us=ps.map Value.ref:=by
  induction ps with
  | nil=>intro us r; cases r; rfl
  | cons p ps ih=>intro us r; cases r with | cons h r=>cases (show _=Value.ref p from h); rw [ih r]; rfl
theorem vals_refs:∀ ps:List Addr,Vals (ps.map V.ref) (ps.map Value.ref)
  | []=>.nil
  | _::ps=>.cons rfl (vals_refs ps)
section
open PySem.W
variable {prog:Program} {w:World} {A:Around} {E:Value→Shared→Prop} {s:Shared} {a:Addr} {n:Nat} {vs:List Value}
theorem sort_few {P:PySem.Fin→Shared→Prop} (hn:vs.length<2) (ho:s.heap.get? a=some (seqObj "list" vs.toArray n))
    (k:∀ h' c,(∀ b o,b≠a→s.heap.get? b=some o→h'.get? b=some o)→h'.get? a=some (seqObj "list" vs.toArray c)→P (.done (.ret .none)) { s with heap:=h' }) :
    wpAny (model prog w) A (Builtin.«list.sort» ⟨[.ref a],[]⟩) P E s:=by
  have z:sizeLine=16777216:=sizeLine_eq
  have lt:a<s.heap.objs.size:=Heap.lt_size ho
  obtain ⟨e,o1⟩:∃ e,(s.heap.update a (Obj.mapSeq fun _=>(#[]:Array Value))).get? a=some (seqObj "list" #[] e):=⟨_,get?_update_seq ho fun _=>#[]⟩
  rw [list_sort_plain]
  refine wpAny_bind (listItems_at ho rfl (wpAny_bind (listUpdate_at ho rfl (wpAny_bind (seqEpoch_at o1 rfl (wpAny_bind (wpAny_newTuple (wpAny_bind (wpAny_newList (wpAny_holding ?_) (Nat.zero_le _))) (by show vs.length≤_; omega))))) (by rw [List.size_toArray]; omega) (Nat.zero_le _))))
  dsimp only
  rw [if_pos (show vs.toArray.size<2 by rw [List.size_toArray]; omega),if_pos (show vs.toArray.size<2 by rw [List.size_toArray]; omega)]
  have o2:(((s.heap.update a (Obj.mapSeq fun x=>#[])).push { cls:=Value.type "tuple", data:=Data.seq vs.toArray }).push { cls:=Value.type "list", data:=Data.seq #[] }).get? a=some (seqObj "list" #[] e):=Heap.get?_push_of_some _ (Heap.get?_push_of_some _ o1)
  refine wpAny_bind (wpAny_pure (wpAny_bind (m:=StateT.run (pure ()) _) (wpAny_pure (wpAny_bind (seqEpoch_at o2 rfl ?_)))))
  have em:Array.map (fun x=>x.snd) (arrOf (SortSt.mk' general' (vs.toArray.zip vs.toArray) #[] 7 none))=vs.toArray:=by
    show Array.map (fun x=>x.snd) (vs.toArray.zip vs.toArray)=vs.toArray
    apply Array.toList_inj.mp
    rw [Array.toList_map,Array.toList_zip,List.map_snd_zip]
    exact Nat.le_refl _
  refine wpAny_bind (listUpdate_at o2 rfl ?_ (Nat.zero_le _) (by rw [em,List.size_toArray]; omega))
  show wpAny _ _ (if (e != e)=true then _ else _) _ _ _
  rw [bne_self_eq_false,if_neg Bool.false_ne_true]
  rw [em]
  obtain ⟨c,o3⟩:∃ c,((((s.heap.update a (Obj.mapSeq fun x=>#[])).push { cls:=Value.type "tuple", data:=Data.seq vs.toArray }).push { cls:=Value.type "list", data:=Data.seq #[] }).update a (Obj.mapSeq fun _=>vs.toArray)).get? a=some (seqObj "list" vs.toArray c):=⟨_,get?_update_seq o2 fun _=>vs.toArray⟩
  refine wpAny_pure (k _ c (fun b o hb q=>?_) o3)
  rw [Heap.get?_update_other _ _ (Ne.symm hb)]
  exact Heap.get?_push_of_some _ (Heap.get?_push_of_some _ (by rw [Heap.get?_update_other _ _ (Ne.symm hb)]; exact q))
theorem sorted_few {l:Addr} {Q:Value→Shared→Prop} (hl:s.heap.IsList l vs.toArray) (hn:vs.length<2)
    (k:∀ h' D c,s.heap.objs.size≤D→(∀ b o,s.heap.get? b=some o→h'.get? b=some o)→h'.get? D=some (seqObj "list" vs.toArray c)→Q (.ref D) { s with heap:=h' }) :
    wpAny (model prog w) A (call (.builtin "sorted") [.ref l]) Q E s:=by
  have z:sizeLine=16777216:=sizeLine_eq
  refine Calls.call_function_entry kind_sorted plain_sorted entry_sorted (args_sorted1 _) ?_
  unfold Builtin.«sorted»
  refine wpAny_bind (m:=checkCount "sorted" 1 1 _) (wpAny_pure (wpAny_bind (collect_list hl (wpAny_bind (wpAny_newList ?_ (by omega))) (by omega))))
  generalize hg:(s.heap.push (seqObj "list" #[] 0)).update s.heap.objs.size (Obj.mapSeq fun x=>x++vs.toArray)=g
  have gs:g.objs.size=s.heap.objs.size+1:=by rw [← hg,Heap.size_update,size_push']
  have kg:∀ b o,s.heap.get? b=some o→g.get? b=some o:=fun b o q=>by
    have hb:b<s.heap.objs.size:=Heap.lt_size q
    rw [← hg,Heap.get?_update_other _ _ (Nat.ne_of_gt hb)]
    exact Heap.get?_push_of_some _ q
  have oD:(g.push (seqObj "list" vs.toArray 0)).get? g.objs.size=some (seqObj "list" vs.toArray 0):=Heap.get?_push_size g rfl
  dsimp only
  refine wpAny_bind (wpAny_holding (wpAny_call_entry slot_list_sort ⟨_,oD,rfl⟩ entry_list_sort (sort_few (s:={ s with heap:=g.push (seqObj "list" vs.toArray 0) }) hn oD fun h' c kp hD=>?_) (args_list_sort _)))
  refine ⟨_,rfl,wpAny_pure ⟨_,rfl,k h' g.objs.size c (by omega) (fun b o q=>kp b o (Nat.ne_of_lt (by rw [gs]; exact Nat.lt_succ_of_lt (Heap.lt_size q))) (Heap.get?_push_of_some _ (kg b o q))) hD⟩⟩
end
theorem call_sort01 {X:Cx} {K:PySem.W.Frag} (hK:X.K=K):CallR X (.builtin "sorted") (fun xs H Q=>∃ a vs,xs=[.ref a]∧SqL K H a vs∧vs.length<2∧∀ D,H D=none→Q (.ref D) (upd H D (.lst vs))):=by
  subst hK
  intro pins s σ H xs us Q I r h
  obtain ⟨a,vs,rfl,hq,hn,q⟩:=h
  cases r with
  | cons r1 r =>
    cases r
    cases (show _=Value.ref a from r1)
    obtain ⟨its,rv,pl,hz⟩:=I.list hq
    refine sorted_few pl.isList (by rw [← rv.length]; exact hn) fun h' D c hD kp oD=>?_
    exact ⟨.ref D,upd H D (.lst vs),I.laid (t':=s.toks) kp hD ⟨hz,its,c,rv,oD⟩,rfl,q D (I.hok.fresh hD)⟩
end L2
namespace L2
open PySem PySem.Spec PyProof.Rows
def srtZ (zs:List (List Int)):List (List Int):=zs.mergeSort fun a b=>!lexLt b a
theorem srtZ_perm (zs:List (List Int)):(srtZ zs).Perm zs:=List.mergeSort_perm _ _
theorem srtZ_up (zs:List (List Int)):(srtZ zs).Pairwise fun a b=>lexLt b a=false:=by
  have h:=List.pairwise_mergeSort (le:=fun a b=>!lexLt b a) (fun a b c h1 h2=>by
    rw [Bool.not_eq_true'] at h1 h2 ⊢
    exact lex_tr _ _ _ h1 h2) (fun a b=>by
    cases e:lexLt b a with
    | false=>rfl
    | true=>simp [lex_as _ _ e]) zs
  exact h.imp fun h=>by simpa using h
theorem srtZ_uniq {xs zs:List (List Int)} (p:xs.Perm zs) (h:xs.Pairwise fun a b=>lexLt b a=false):xs=srtZ zs :=
  List.Perm.eq_of_pairwise (fun a b _ _ h1 h2=>lex_eq a b h2 h1) h (srtZ_up zs) (p.trans (srtZ_perm zs).symm)
def rSort1 (K:PySem.W.Frag):List V→Hp→VK→Prop:=fun xs H Q=>∃ a vs,xs=[.ref a]∧SqL K H a vs∧vs.length<2∧∀ D,H D=none→Q (.ref D) (upd H D (.lst vs))
end L2
namespace VL
open PySem L2
open Classical
noncomputable section
variable [Tabs] {K:PySem.W.Frag}
theorem mapInt_inj:∀ {a b:List Int},a.map D.int=b.map D.int→a=b
  | [],[],_=>rfl
  | [],_::_,h=>by cases h
  | _::_,[],h=>by cases h
  | x::a,y::b,h=>by
    injection h with h1 h2
    injection h1 with h1
    rw [h1,mapInt_inj h2]
theorem range_getD (zs:List (List Int)):(List.range zs.length).map (fun i=>zs.getD i [])=zs:=by
  refine List.ext_getElem (by simp) fun i h1 h2=>?_
  simp [h2]
end
end VL
namespace L2
open PySem PySem.Spec PyProof.Rows
section
variable {M:Model} {A:Around} {E:Value→Shared→Prop} {s:Shared} {base:Heap} {env:Env} {outer:List Env} {L e T:Addr} {cls fl:Value} {Q:Unit→Shared→Prop}
end
section
variable {X:Cx} {pins:List (Addr×Obj)} {σ:St} {H:Hp} {s s':Shared} {E:XK} {e:Value}
end
section
variable {prog:Program} {w:World} {A:Around} {R:Result→Shared→Prop} {s:Shared}
end
section
variable {X:Cx} {tg elt iter:Expr} {scope:Scope} {cl:List (Str×Addr)} {N':List Str} {σ0:St→St} {g:TG} {te:TE} {E:XK}
variable {pos:Pos} {wi:TI} {ts zs:List Str} {is:List Nat} {k:Nat}
end
end L2
namespace VL
open PySem L2
open Classical
noncomputable section
variable [Tabs] {K:PySem.W.Frag} {E:XK} {C:Addr}
end
end VL
namespace L2
open PySem PySem.Spec PyProof.Rows
def BmOk (mg:Str→Option Value) (base:Heap):Prop:=∃ bm ob,mg "__builtins__" = some (.ref bm)∧bm≠builtinsNs∧base.get? bm=some ob∧ob.cls=.type "module" ∧ ob.dict=some builtinsNs∧ob.data=.plain
structure LamOk (X:Cx) (c P:Addr):Prop where
  code:X.env.code=.ref c
  hd:PySem.W.codeHdIn X.K c P=true
  bm:BmOk X.mg X.base
structure LFrees (X:Cx) (x:Str) (zs:List Str) (is:List Nat) (scope:Scope) (cl:List (Str×Addr)):Prop where
  par:scope.names.lookup x=some .local
  sub:∀ y c,cl.lookup y=some c→X.env.cells.lookup y=some c
  cap:∀ (j:Nat) (z:Str),zs[j]?=some z→∃ i c,is[j]?=some i∧X.N[i]?=some z∧(X.env.scope.names.lookup z=some .cell∨X.env.scope.names.lookup z=some .free)∧cl.lookup z=some c∧scope.names.lookup z=some .free
  has:∀ y,(scope.names.lookup y=some .cell∨scope.names.lookup y=some .free)→∃ c,cl.lookup y=some c
  len:is.length=zs.length
  nocell:∀ y∈scope.names,y.2≠.cell
  kind:scope.kind=.function
  co:scope.isCoroutine=false
  gen:scope.isGenerator=false
inductive LapL (X:Cx) (scope:Scope) (cl:List (Str×Addr)):List Nat→List Str→Prop
  | nil:LapL X scope cl [] []
  | cons {i:Nat} {z:Str} {c:Addr} {is:List Nat} {zs:List Str}:X.N[i]?=some z→(X.env.scope.names.lookup z=some .cell∨X.env.scope.names.lookup z=some .free)→cl.lookup z=some c→scope.names.lookup z=some .free→LapL X scope cl is zs→LapL X scope cl (i::is) (z::zs)
end L2
namespace L2
open PySem PySem.Spec PyProof.Rows
section
variable {X:Cx} {pins:List (Addr×Obj)} {σ:St} {H:Hp} {s:Shared} {m:Str→Option Value} {h':Heap} {kS:Addr} {ok:Obj}
end
section
variable {X:Cx} {pins:List (Addr×Obj)} {σ:St} {m:Str→Option Value} {kS f:Addr} {o:Obj} {q:Str} {params:Arguments} {body:Expr} {scope:Scope} {cl:List (Str×Addr)} {A:Around} {x:Str} {zs:List Str} {is:List Nat} {te:TE} {Fin:List V→Hp→Prop}
structure Nil (X:Cx) (pins:List (Addr×Obj)) (H:Hp) (b:Addr):Prop where
  h:H b=none
  cell:∀ x c,X.env.cells.lookup x=some c→c≠b
  pin:∀ p∈X.pn++pins,p.1≠b
  fs:b∉X.fs
end
end L2
namespace L2
open PySem PySem.Spec PyProof.Rows PySem.Calls
section
open PySem.W
variable {prog:Program} {w:World} {A:Around} {E:Value→Shared→Prop} {s:Shared} {h₀:Heap} {L kS a:Addr} {m:Str→Option Value} {news:List (Addr×Obj)} {vs:List Value}
end
section
variable {X:Cx} {pins:List (Addr×Obj)} {σ:St} {m:Str→Option Value} {kS f:Addr} {o:Obj} {q:Str} {params:Arguments} {body:Expr} {scope:Scope} {cl:List (Str×Addr)} {A:Around} {x:Str} {zs:List Str} {is:List Nat} {te:TE} {Fin:List V→Hp→Prop}
end
end L2
namespace VL
open PySem L2
open Classical
noncomputable section
variable [Tabs] {K:PySem.W.Frag}
theorem isl_idx {H:Hp} {T:Addr→Prop} {vs:List V} {ds:List D} (h:IsL K H T vs ds):∀ {idx:List Nat},(∀ i∈idx,i<ds.length)→IsL K H T (idx.map fun i=>vs.getD i .non) (idx.map fun i=>ds.getD i .non)
  | [],_=>.nil
  | i::idx,hl=>by
    have hi:=hl i List.mem_cons_self
    obtain ⟨v,e1,i1⟩:=h.get (List.getElem?_eq_getElem hi)
    refine .cons ?_ (isl_idx h fun j hj=>hl j (List.mem_cons_of_mem _ hj))
    have ev:vs.getD i .non=v:=by rw [List.getD_eq_getElem?_getD,e1]; rfl
    have ed:ds.getD i .non=ds[i]:=by rw [List.getD_eq_getElem?_getD,List.getElem?_eq_getElem hi]; rfl
    show Is K H T (vs.getD i .non) (ds.getD i .non)
    rw [ev,ed]
    exact i1
end
end VL
namespace L2
open PySem PySem.Spec PyProof.Rows
def tabH (ts:List (Addr×Str)):Hp:=fun b=>(ts.lookup b).map fun q=>.tbl #[.str q 0]
end L2
namespace L2
open PySem PySem.Spec PyProof.Rows
end L2
namespace VL
open PySem L2
open Classical
noncomputable section
variable [Tabs] {K:PySem.W.Frag}
end
end VL
namespace L2
open PySem PySem.Spec PyProof.Rows
end L2
namespace VL
open PySem L2
open Classical
noncomputable section
variable [Tabs] {K:PySem.W.Frag}
end
end VL
namespace PySem.SeqAt
open AutoSeq1 (wpAny_loadPart')
open MeetsSeq MeetsSeq2 MeetsSeq3
def LtAt (A:Around) (s:Shared) (y x:Value) (b:Bool):Prop :=
  ∀ (prog:Program) (w:World) (E:Value→Shared→Prop) (Q:Value→Shared→Prop),Q (.bool b) s→wpAny (model prog w) A (richCompare .Lt y x) Q E s
def lexAt (e l:Nat→Bool) (fin:Bool):Nat→Nat→Bool
  | 0,_=>fin
  | k+1,i=>if e i=true then lexAt e l fin k (i+1) else l i
theorem lt_loopAt (l b:Addr) (items items2:Array Value) (n n2:Nat) (dd dd2:Option Addr) (sl sl2:Array (Option Value)) (e lt:Nat→Bool) (k:Nat) :
    ∀ i:Nat,i≤min items.size items2.size→min items.size items2.size-i=k→Meets (Builtin.«list.__eq__.loop» ⟨[.ref l,.ref b,rawInt i,rawInt 0],[]⟩)
      (fun A R s=>s.heap.get? l=some { cls:=.type "list", dict:=dd,data:=.seq items n,slots:=sl }∧s.heap.get? b=some { cls:=.type "list", dict:=dd2,data:=.seq items2 n2,slots:=sl2 } ∧
        (∀ j (h1:j<items.size) (h2:j<items2.size),EqAt A.in1 s items[j] items2[j] (e j))∧(∀ j (h1:j<items.size) (h2:j<items2.size),e j=false→LtAt A.in1 s items[j] items2[j] (lt j)) ∧
        R (.ok (.ret (.bool (lexAt e lt (decide (items.size<items2.size)) k i)))) s):=by
  induction k with
  | zero =>
    intro i hi hk prog w A R s h
    obtain ⟨hp,g,d,tk,os⟩:=s; obtain ⟨hl,hb,he,hlt,h⟩:=h
    wp_walk using wpAny_loadPart' hl,wpAny_loadPart' hb
    by_cases hc:items.size≤i
    · have hi1:items[((i:Nat):Int).toNat]?=none:=by simp; omega
      rw [hi1]
      wp_walk using wpAny_loadPart' hl,wpAny_loadPart' hb
      exact h
    · have hi2:items2[((i:Nat):Int).toNat]?=none:=by simp; omega
      have hi1:items[((i:Nat):Int).toNat]?=some (items[i]'(by omega)):=by simp
      rw [hi1,hi2]
      wp_walk using wpAny_loadPart' hl,wpAny_loadPart' hb
      exact h
  | succ k ih =>
    intro i hi hk prog w A R s h
    obtain ⟨hp,g,d,tk,os⟩:=s; obtain ⟨hl,hb,he,hlt,h⟩:=h
    wp_walk using wpAny_loadPart' hl,wpAny_loadPart' hb
    have hlt1:i<items.size:=by omega
    have hlt2:i<items2.size:=by omega
    have hi1:items[((i:Nat):Int).toNat]?=some items[i]:=by simp [hlt1]
    have hi2:items2[((i:Nat):Int).toNat]?=some items2[i]:=by simp [hlt2]
    have hc:((i:Int)+1)=((i+1:Nat):Int):=by push_cast; rfl
    unfold lexAt at h
    rw [hi1,hi2]
    refine wpAny_bind (he i hlt1 hlt2 prog w _ _ ?_)
    cases hb':e i with
    | true =>
      rw [hb',if_pos rfl] at h
      wp_walk
      rw [hc]
      exact ⟨plainId_quiet plain_eq_loop _,codeAny_builtin entry_eq_loop (by
        rw [Around.under_plainId plain_eq_loop _]
        exact ih (i+1) (by omega) (by omega) prog w A R _ ⟨hl,hb,he,hlt,h⟩)⟩
    | false =>
      rw [hb',if_neg Bool.false_ne_true] at h
      wp_walk using wpAny_loadPart' hl,wpAny_loadPart' hb
      rw [hi1,hi2]
      dsimp only
      refine wpAny_bind (hlt i hlt1 hlt2 hb' prog w _ _ ?_)
      wp_walk
      exact h
theorem list_ltAt (l b:Addr) (items items2:Array Value) (n n2:Nat) (dd dd2:Option Addr) (sl sl2:Array (Option Value)) (e lt:Nat→Bool) :
    Meets (Builtin.«list.__lt__» ⟨[.ref l,.ref b],[]⟩)
      (fun A R s=>s.heap.get? l=some { cls:=.type "list", dict:=dd,data:=.seq items n,slots:=sl }∧s.heap.get? b=some { cls:=.type "list", dict:=dd2,data:=.seq items2 n2,slots:=sl2 } ∧
        (∀ j (h1:j<items.size) (h2:j<items2.size),EqAt A.in1 s items[j] items2[j] (e j))∧(∀ j (h1:j<items.size) (h2:j<items2.size),e j=false→LtAt A.in1 s items[j] items2[j] (lt j)) ∧
        R (.ok (.ret (.bool (lexAt e lt (decide (items.size<items2.size)) (min items.size items2.size) 0)))) s):=by
  intro prog w A R s h
  obtain ⟨hp,g,d,tk,os⟩:=s; obtain ⟨hl,hb,he,hlt,h⟩:=h
  have f3:=AutoSeq1.sub_list_list
  wp_walk using wpAny_loadPart' hl,wpAny_loadPart' hb
  exact ⟨plainId_quiet plain_eq_loop _,codeAny_builtin entry_eq_loop (by
    rw [Around.under_plainId plain_eq_loop _]
    exact lt_loopAt l b items items2 n n2 dd dd2 sl sl2 e lt _ 0 (Nat.zero_le _) rfl prog w A R _ ⟨hl,hb,he,hlt,h⟩)⟩
section
variable {A:Around} {s:Shared}
theorem LtAt.ints (a b:Int) (t u:Tok):LtAt A s (.int a t) (.int b u) (decide (a<b)):=fun prog w E Q h=>PyProof.Rows.lt_int h
end
end PySem.SeqAt
namespace VL
open PySem L2
open Classical
noncomputable section
variable {K:PySem.W.Frag}
def ordb:Nat→D→D→Bool
  | _,.int _,.int _=>true
  | n+1,.lst xs,.lst ys=>(List.zip xs ys).all fun p=>cmpb n p.1 p.2&&ordb n p.1 p.2
  | n+1,.tup xs,.tup ys=>(List.zip xs ys).all fun p=>cmpb n p.1 p.2&&ordb n p.1 p.2
  | _,_,_=>false
section
variable {X:Cx} {pins:List (Addr×Obj)} {σ:L2.St} {H:Hp} {s:Shared}
inductive Om:Nat→D→D→Prop
  | int {n:Nat} (a b:Int):Om n (.int a) (.int b)
  | lst {n:Nat} {xs ys:List D} (h:(List.zip xs ys).all (fun p=>cmpb n p.1 p.2&&ordb n p.1 p.2)=true):Om (n+1) (.lst xs) (.lst ys)
  | tup {n:Nat} {xs ys:List D} (h:(List.zip xs ys).all (fun p=>cmpb n p.1 p.2&&ordb n p.1 p.2)=true):Om (n+1) (.tup xs) (.tup ys)
end
end
end VL
namespace L2
open PySem PySem.Spec PyProof.Rows VL
section
variable {X:Cx} {pins P0 P1:List (Addr×Obj)} {σ:St} {H:Hp} {s:Shared} {h':Heap} {a:Addr} {oa oa':Obj} {t':Nat}
end
section
variable {X:Cx} {pins:List (Addr×Obj)} {σ:St} {f:Addr} {o:Obj} {q:Str} {params:Arguments} {body:Expr} {scope:Scope} {cl:List (Str×Addr)} {x:Str} {zs:List Str} {is:List Nat} {te:TE} {Fin:V→Hp→Prop} {kw:List (Str×Value)} {l I S:Addr} {vs:List V}
end
end L2
namespace L2
open PySem PySem.Spec PyProof.Rows VL
section
variable {X:Cx} {pins:List (Addr×Obj)} {σ:St} {q:Str} {params:Arguments} {body:Expr} {scope:Scope} {cl:List (Str×Addr)} {x:Str} {zs:List Str} {is:List Nat} {te:TE}
end
end L2
namespace VL
open PySem L2
open Classical
noncomputable section
variable [Tabs] {K:PySem.W.Frag}
end
end VL
namespace L2
open PySem PySem.Spec PyProof.Rows
section
variable {X:Cx} {pins:List (Addr×Obj)} {σ:St} {m:Str→Option Value} {kS f:Addr} {o:Obj} {q:Str} {params:Arguments} {body:Expr} {scope:Scope} {cl:List (Str×Addr)} {A:Around} {x:Str} {zs:List Str} {is:List Nat} {te:TE} {Fin:List V→Hp→Prop}
end
end L2
namespace VL
open PySem L2
open Classical
noncomputable section
variable [Tabs] {K:PySem.W.Frag}
end
end VL
namespace VL
open PySem L2
open Classical
noncomputable section
variable [Tabs] {K:PySem.W.Frag} {fr:Fm}
end
end VL
namespace PySem.SeqAt
theorem oneLt_list {prog:Program} {w:World} {A:Around} {E:Value→Shared→Prop} {Q:Bool→Shared→Prop} {s:Shared} {l b:Addr} {items items2:Array Value} {e lt:Nat→Bool} (hl:s.heap.IsList l items) (hb:s.heap.IsList b items2) (hu:A.units<cLine)
    (he:∀ j (h1:j<items.size) (h2:j<items2.size),EqAt A.in1 s items[j] items2[j] (e j)) (hlt:∀ j (h1:j<items.size) (h2:j<items2.size),e j=false→LtAt A.in1 s items[j] items2[j] (lt j)) (h:Q (lexAt e lt (decide (items.size<items2.size)) (min items.size items2.size) 0) s) :
    wpAny (model prog w) A (PyProof.Rows.oneLt' true (.ref l) (.ref b)) Q E s:=by
  obtain ⟨⟨cls,dd,data,sl⟩,ho,hc,n,hd⟩:=id hl
  obtain ⟨⟨cls2,dd2,data2,sl2⟩,ho2,hc2,n2,hd2⟩:=id hb
  simp only at hc hd hc2 hd2
  subst hc hd hc2 hd2
  rw [PyProof.Rows.oneLt'_eq]
  simp only [if_true]
  refine wpAny_bind (wpAny_cRoomFor hu ?_)
  refine wpAny_bind (wpAny_callSpecialIfBound?_slot ⟨_,ho,rfl⟩ F.slot_list_lt (call_meets F.slot_list_lt ⟨_,ho,rfl⟩ F.entry_list_lt (F.args_list_lt_2 _ _) (list_ltAt l b items items2 n n2 dd dd2 sl sl2 e lt) ⟨ho,ho2,he,hlt,?_⟩))
  exact wpAny_truthy_bool h
end PySem.SeqAt
namespace L2
open PySem PySem.Spec PyProof.Rows
theorem lexAt_lexLt (ds es:List Int):∀ k i,i≤min ds.length es.length→min ds.length es.length-i=k→SeqAt.lexAt (fun j=>ds.getD j 0==es.getD j 0) (fun j=>decide (ds.getD j 0<es.getD j 0)) (decide (ds.length<es.length)) k i=lexLt (ds.drop i) (es.drop i)
  | 0,i,hi,hk=>by
    unfold SeqAt.lexAt
    by_cases h1:ds.length≤es.length
    · have e1:ds.drop i=[]:=List.drop_of_length_le (by omega)
      rw [e1]
      by_cases h2:ds.length<es.length
      · rw [List.drop_eq_getElem_cons (show i<es.length by omega),decide_eq_true h2]; rfl
      · have e2:es.drop i=[]:=List.drop_of_length_le (by omega)
        rw [e2,decide_eq_false h2]; rfl
    · have e2:es.drop i=[]:=List.drop_of_length_le (by omega)
      rw [e2,List.drop_eq_getElem_cons (show i<ds.length by omega),decide_eq_false (by omega)]; rfl
  | k+1,i,hi,hk=>by
    have h1:i<ds.length:=by omega
    have h2:i<es.length:=by omega
    unfold SeqAt.lexAt
    rw [List.drop_eq_getElem_cons h1,List.drop_eq_getElem_cons h2,lexAt_lexLt ds es k (i+1) (by omega) (by omega)]
    have g1:ds.getD i 0=ds[i]:=by rw [List.getD_eq_getElem?_getD,List.getElem?_eq_getElem h1]; rfl
    have g2:es.getD i 0=es[i]:=by rw [List.getD_eq_getElem?_getD,List.getElem?_eq_getElem h2]; rfl
    rw [g1,g2]
    show _=if ds[i]=es[i] then lexLt (ds.drop (i+1)) (es.drop (i+1)) else decide (ds[i]<es[i])
    by_cases c:ds[i]=es[i]
    · rw [if_pos c,if_pos (by simpa using c)]
    · rw [if_neg c,if_neg (by simpa using c)]
def LstZ (H:Hp) (ps:List Addr) (zs:List (List Int)):Prop:=Paired (fun p z=>Rd H p (.lst (z.map V.int))) ps zs
def rSortL (K:PySem.W.Frag):List V→Hp→VK→Prop:=fun xs H Q=>∃ (a:Addr) (ps:List Addr) (zs:List (List Int)),xs=[.ref a]∧SqL K H a (ps.map V.ref)∧LstZ H ps zs∧2≤zs.length∧zs.length<64 ∧
  ∀ idx:List Nat,idx.Perm (List.range zs.length)→(idx.Pairwise fun i j=>lexLt (zs.getD j []) (zs.getD i [])=false)→∀ D,H D=none→Q (.ref D) (upd H D (.lst (idx.map fun i=>V.ref (ps.getD i 0))))
theorem call_sortL {X:Cx} {K:PySem.W.Frag} {k:Nat} (hK:X.K=K) (hx:X.ex=[]) (hr:Room k X.A):CallR X (.builtin "sorted") (rSortL K):=by
  subst hK
  intro pins s σ H xs us Q I r h
  obtain ⟨a,ps,zs,rfl,hq,tz,h2,h64,q⟩:=h
  cases r with
  | cons r1 r =>
    cases r
    cases (show _=Value.ref a from r1)
    obtain ⟨its,rv,pl,_⟩:=I.list hq
    have ei:=refs_of rv
    subst ei
    have hl:ps.length=zs.length:=Paired.length tz
    obtain ⟨m,F⟩:=I.fr
    have at_:∀ i,i<zs.length→∃ p z,ps[i]?=some p∧zs[i]?=some z∧Rd H p (.lst (z.map V.int)):=fun i hi=>by
      obtain ⟨p,e1,g1⟩:=VL.Paired.getF tz (List.getElem?_eq_getElem hi)
      exact ⟨p,_,e1,List.getElem?_eq_getElem hi,g1⟩
    have hne:∀ {p:Addr} {z:List Int},Rd H p (.lst (z.map V.int))→H p≠none:=fun {p z} h e=>by
      rcases h with h | ⟨o,h⟩
      · rw [h] at e; cases e
      · rw [h] at e; cases e
    have keepN:∀ (h':Heap),News X.base X.env.locals h' (allNews X.base s.heap X.env.locals)→∀ p o,H p≠none→s.heap.get? p=some o→h'.get? p=some o:=fun h' N' p o hp e=>by
      have hb:p≠X.env.locals:=fun z=>hp (by rw [z]; exact I.free)
      cases eb:X.base.get? p with
      | some y=>exact absurd (I.bs p y eb).2 hp
      | none=>exact (N' (p,o) (mem_allNews hb eb e)).1
    have it:∀ (h':Heap),News X.base X.env.locals h' (allNews X.base s.heap X.env.locals)→∀ i,i<zs.length→∃ p z us n,ps[i]?=some p∧zs[i]?=some z∧h'.get? p=some { cls:=.type "list", data:=.seq us.toArray n }∧IntsAre us z:=fun h' N' i hi=>by
      obtain ⟨p,z,e1,e2,g⟩:=at_ i hi
      obtain ⟨_,us,n,k1,_,o1⟩:=I.lstR g
      exact ⟨p,z,us,n,e1,e2,keepN h' N' p _ (hne g) o1,intsAre_of k1⟩
    refine PySem.W.kas_sorted (T:=.type "list") (vs:=ps.map Value.ref) F (news_all (h:=s.heap)) pl.isList (by rw [List.length_map]; omega) (by rw [List.length_map]; omega) (fun h' F' N' v hv=>?_) (by decide) fun D e1 h' F' N' hlt=>?_
    · obtain ⟨p,hp,rfl⟩:=List.mem_map.mp hv
      obtain ⟨i,hi,rfl⟩:=List.mem_iff_getElem.mp hp
      obtain ⟨p',z,us,n,e1,e2,o1,_⟩:=it h' N' i (by omega)
      rw [List.getElem?_eq_getElem hi] at e1
      cases e1
      exact (PySem.W.Looks.ld o1).andThen PySem.W.Looks.now
    · have N0:News X.base X.env.locals h' (allNews X.base s.heap X.env.locals):=fun p hp=>N' p (List.mem_cons_of_mem _ hp)
      rw [List.length_map,hl]
      refine Srt.KOk.wp (lt:=fun i j=>lexLt (zs.getD i []) (zs.getD j [])) (N:=zs.length) (fun i j C hi hj hC=>?_) _ (Srt.KOk.mono (fun p hp=>?_) _ (Srt.sort_ok (lex_ord fun i=>zs.getD i []) (by omega)))
      · obtain ⟨p,z,us,n,e1,e2,k1,k4⟩:=it h' N0 i hi
        obtain ⟨p',z',us',n',e1',e2',k1',k4'⟩:=it h' N0 j hj
        have ei:(ps.map Value.ref).getD i Value.none=.ref p:=by rw [List.getD_eq_getElem?_getD,List.getElem?_map,e1]; rfl
        have ej:(ps.map Value.ref).getD j Value.none=.ref p':=by rw [List.getD_eq_getElem?_getD,List.getElem?_map,e1']; rfl
        have zi:zs.getD i []=z:=by rw [List.getD_eq_getElem?_getD,e2]; rfl
        have zj:zs.getD j []=z':=by rw [List.getD_eq_getElem?_getD,e2']; rfl
        unfold PySem.W.kas_ask
        rw [ei,ej]
        rw [zi,zj] at hC
        have l1:=IntsAre.length k4
        have l2:=IntsAre.length k4'
        rw [PyProof.Rows.keyLt'_oneType]
        have iat:∀ {us:List Value} {z:List Int},IntsAre us z→∀ j (h:j<us.toArray.size),∃ t,us.toArray[j]=.int (z.getD j 0) t:=fun {us z} k j h=>by
          have rk:=vals_ints k
          have hj:j<z.length:=by rw [List.size_toArray] at h; have:=IntsAre.length k; omega
          have e:(z.map V.int)[j]?=some (.int (z.getD j 0)):=by rw [List.getElem?_map,List.getD_eq_getElem?_getD,List.getElem?_eq_getElem hj]; rfl
          obtain ⟨u,eu,t,rfl⟩:=rk.get e
          refine ⟨t,?_⟩
          have:us[j]?=some us[j]:=List.getElem?_eq_getElem (by simpa using h)
          rw [this] at eu
          simpa using eu
        refine SeqAt.oneLt_list (items:=us.toArray) (items2:=us'.toArray) (e:=fun j=>z.getD j 0==z'.getD j 0) (lt:=fun j=>decide (z.getD j 0<z'.getD j 0)) ⟨_,k1,rfl,_,rfl⟩ ⟨_,k1',rfl,_,rfl⟩ (by have:=hr.un; show X.A.units+1+1 < _; omega) (fun j h1 h2=>?_) (fun j h1 h2 _=>?_) ?_
        · obtain ⟨t,e⟩:=iat k4 j h1
          obtain ⟨t',e'⟩:=iat k4' j h2
          rw [e,e']
          exact SeqAt.EqAt.int_int _ t _ t'
        · obtain ⟨t,e⟩:=iat k4 j h1
          obtain ⟨t',e'⟩:=iat k4' j h2
          rw [e,e']
          exact SeqAt.LtAt.ints _ _ t t'
        · rw [List.size_toArray,List.size_toArray,l1,l2,lexAt_lexLt z z' (min z.length z'.length) 0 (Nat.zero_le _) rfl]
          exact hC
      · obtain ⟨pm,up⟩:=hp
        have hlen:p.toList.length=zs.length:=by rw [pm.length_eq,List.length_range]
        have lt_:∀ i∈p.toList,i<zs.length:=fun i hi=>List.mem_range.mp (pm.mem_iff.mp hi)
        refine PySem.W.KasFin.intro F' N' (.head fun q hq=>Nat.ne_of_lt (hlt q hq)) fun h'' c F'' N''=>?_
        have nD:=N' _ List.mem_cons_self
        have hD:s.heap.get? D=none:=by
          cases e:s.heap.get? D with
          | none=>rfl
          | some o=>exact absurd (hlt (D,o) (mem_allNews nD.2.1 nD.2.2 e)) (Nat.lt_irrefl _)
        have hn:H D=none:=(I.out hx hD).h
        have eo:(p.toList.map fun i=>(ps.map Value.ref).getD i Value.none)=(p.toList.map fun i=>ps.getD i 0).map Value.ref:=by
          rw [List.map_map]
          refine List.map_congr_left fun i hi=>?_
          have h1:i<ps.length:=by rw [hl]; exact lt_ i hi
          show (ps.map Value.ref).getD i Value.none=Value.ref (ps.getD i 0)
          rw [List.getD_eq_getElem?_getD,List.getElem?_map,List.getElem?_eq_getElem h1,List.getD_eq_getElem?_getD,List.getElem?_eq_getElem h1]
          rfl
        have ev:(p.toList.map fun i=>V.ref (ps.getD i 0))=(p.toList.map fun i=>ps.getD i 0).map V.ref:=by rw [List.map_map]; rfl
        refine ⟨.ref D,upd H D (.lst (p.toList.map fun i=>V.ref (ps.getD i 0))),I.newsLaid (t':=s.toks) hx F F'' N'' hD ?_,rfl,q p.toList pm ?_ D hn⟩
        · rw [eo] at N''
          refine ⟨by rw [List.length_map,hlen]; have:=sizeLine_eq; omega,(p.toList.map fun i=>ps.getD i 0).map Value.ref,c,by rw [ev]; exact vals_refs _,?_⟩
          exact (N'' _ List.mem_cons_self).1
        · rw [List.pairwise_iff_getElem]
          intro i j hi hj hij
          have hu:=up i j (by omega) (by omega)
          have gi:Srt.g p i=p.toList[i]:=by unfold Srt.g; rw [Array.getD_eq_getD_getElem?,Array.getElem?_eq_getElem (by simpa using hi)]; rfl
          have gj:Srt.g p j=p.toList[j]:=by unfold Srt.g; rw [Array.getD_eq_getD_getElem?,Array.getElem?_eq_getElem (by simpa using hj)]; rfl
          rw [gi,gj] at hu
          exact hu
end L2
namespace L2
open PySem PySem.Spec PyProof.Rows
def rSrtL (K:PySem.W.Frag):List V→Hp→VK→Prop:=fun xs H Q=>rSortL K xs H Q∨rSort1 K xs H Q
theorem call_srtL {X:Cx} {K:PySem.W.Frag} {k:Nat} (hK:X.K=K) (hx:X.ex=[]) (hr:Room k X.A):CallR X (.builtin "sorted") (rSrtL K):=CallR.or (call_sortL hK hx hr) (call_sort01 hK)
end L2
namespace VL
open PySem L2
open Classical
noncomputable section
variable [Tabs] {K:PySem.W.Frag}
def lstD (z:List Int):D:=.lst (z.map D.int)
omit [Tabs] in
theorem lstD_inj (a b:List Int) (h:lstD a=lstD b):a=b:=by
  unfold lstD at h
  injection h with h
  exact mapInt_inj h
noncomputable def dSrtL (a:DE):Rho→Option (List D):=fun ρ=>match asL a ρ with
  | some ds=>if h:∃ zs:List (List Int),ds=zs.map lstD∧zs.length<64 then some ((srtZ h.choose).map lstD) else none
  | none=>none
omit [Tabs] in
theorem dSrtL_of {a:DE} {ρ:Rho} {zs:List (List Int)} (e:asL a ρ=some (zs.map lstD)) (hl:zs.length<64):dSrtL a ρ=some ((srtZ zs).map lstD):=by
  have h:∃ zs':List (List Int),zs.map lstD=zs'.map lstD∧zs'.length<64:=⟨zs,rfl,hl⟩
  unfold dSrtL
  rw [e]
  show (if h:∃ zs':List (List Int),zs.map lstD=zs'.map lstD∧zs'.length<64 then some ((srtZ h.choose).map lstD) else none)=_
  rw [dif_pos h,← (List.map_inj_right lstD_inj).mp h.choose_spec.1]
omit [Tabs] in
theorem dSrtL_some {a:DE} {ρ:Rho} {ds:List D} (q:dSrtL a ρ=some ds):∃ zs,asL a ρ=some (zs.map lstD)∧zs.length<64∧ds=(srtZ zs).map lstD:=by
  unfold dSrtL at q
  split at q
  · rename_i es e
    split at q
    · rename_i h
      cases q
      exact ⟨h.choose,by rw [e]; exact congrArg some h.choose_spec.1,h.choose_spec.2,rfl⟩
    · cases q
  · cases q
theorem isl_lsts {H:Hp} {T:Addr→Prop}:∀ {zs:List (List Int)} {vs:List V},IsL K H T vs (zs.map lstD)→∃ ps:List Addr,vs=ps.map V.ref∧LstZ H ps zs
  | [],_,.nil=>⟨[],rfl,.nil⟩
  | z::zs,_,.cons h r=>by
    obtain ⟨ps,rfl,hp⟩:=isl_lsts r
    obtain ⟨p,us,rfl,hz,hr,hl,i⟩:=(show Is K H T _ (.lst (z.map D.int)) from h).isLst
    have e:=IsL.ints i
    subst e
    exact ⟨p::ps,rfl,.cons hr hp⟩
omit [Tabs] in
theorem srtZ_idx {zs:List (List Int)} {idx:List Nat} (pm:idx.Perm (List.range zs.length)) (up:idx.Pairwise fun i j=>L2.lexLt (zs.getD j []) (zs.getD i [])=false):idx.map (fun i=>zs.getD i [])=srtZ zs:=by
  refine srtZ_uniq ?_ ?_
  · have:=pm.map fun i=>zs.getD i []
    rw [range_getD] at this
    exact this
  · exact List.pairwise_map.mpr up
omit [Tabs] in
theorem srtZ_few {zs:List (List Int)} (h:¬ 2≤zs.length):zs=srtZ zs:=by
  refine srtZ_uniq (List.Perm.refl _) ?_
  match zs,h with
  | [],_=>exact .nil
  | [z],_=>exact .cons (fun _ h=>by cases h) .nil
  | _::_::_,h=>exact absurd (by simp) h
theorem isl_pickL {H:Hp} {T:Addr→Prop} {ps:List Addr} {zs:List (List Int)} (il:IsL K H T (ps.map V.ref) (zs.map lstD)) {idx:List Nat} (hi:∀ i∈idx,i<zs.length):IsL K H T (idx.map fun i=>V.ref (ps.getD i 0)) ((idx.map fun i=>zs.getD i []).map lstD):=by
  have hl:=il.length
  rw [List.length_map,List.length_map] at hl
  have:=isl_idx il (idx:=idx) (fun i h=>by rw [List.length_map]; exact hi i h)
  have e1:(idx.map fun i=>(ps.map V.ref).getD i .non)=idx.map fun i=>V.ref (ps.getD i 0):=List.map_congr_left fun i h=>by
    have:=hi i h
    rw [List.getD_eq_getElem?_getD,List.getElem?_map,List.getElem?_eq_getElem (by omega),List.getD_eq_getElem?_getD,List.getElem?_eq_getElem (by omega)]; rfl
  have e2:(idx.map fun i=>(zs.map lstD).getD i .non)=(idx.map fun i=>zs.getD i []).map lstD:=by
    rw [List.map_map]
    exact List.map_congr_left fun i h=>by
      have:=hi i h
      show (zs.map lstD).getD i .non=lstD (zs.getD i [])
      rw [List.getD_eq_getElem?_getD,List.getElem?_map,List.getElem?_eq_getElem (by omega),List.getD_eq_getElem?_getD,List.getElem?_eq_getElem (by omega)]; rfl
  rw [e1,e2] at this
  exact this
theorem sf_srtL {ta:TE} {a:DE} (ha:SemI K ta a):SemF K (tCB (rSrtL K) (tCons ta tNil)) (dSrtL a):=fun {B Z os ρ σ H Q ds} f q k=>by
  obtain ⟨zs,e,hl,rfl⟩:=dSrtL_some q
  obtain ⟨d,e,ed⟩:=asL_some e
  refine ha f e fun v H1 s1 i1=>?_
  obtain ⟨p,vs,rfl,hlv,hn,hr⟩:=i1.seq ed
  obtain ⟨hq,il⟩:=hr H1 _ Kp.refl
  obtain ⟨ps,rfl,hp⟩:=isl_lsts il
  have hpl:ps.length=zs.length:=Paired.length hp
  have hs:sizeLine=16777216:=sizeLine_eq
  by_cases h2:2≤zs.length
  · refine .inl ⟨p,ps,zs,rfl,hq,hp,h2,hl,fun idx pm up D hD=>?_⟩
    have lt_:∀ i∈idx,i<zs.length:=fun i hi=>List.mem_range.mp (pm.mem_iff.mp hi)
    have il2:=isl_pickL il lt_
    rw [srtZ_idx pm up] at il2
    refine k D _ _ (s1.trans (same_new hD)) (Same.free s1 hD) upd_same ?_ (il2.kp (kp_new hD))
    rw [List.length_map,pm.length_eq,List.length_range]; omega
  · refine .inr ⟨p,ps.map V.ref,rfl,hq,by rw [List.length_map,hpl]; omega,fun D hD=>?_⟩
    rw [← srtZ_few h2] at k
    exact k D _ _ (s1.trans (same_new hD)) (Same.free s1 hD) upd_same (by rw [List.length_map,hpl]; omega) (il.kp (kp_new hD))
end
end VL
namespace VL
open PySem L2
open Classical
noncomputable section
variable [Tabs] {K:PySem.W.Frag}
end
end VL
namespace VL
open PySem L2
open Classical
noncomputable section
variable [Tabs] {K:PySem.W.Frag}
end
end VL
namespace L2
open PySem PySem.Spec PyProof.Rows VL
open Classical
noncomputable section
variable {X:Cx} {K:PySem.W.Frag}
end
end L2
namespace VL
open PySem L2
open Classical
noncomputable section
variable [Tabs] {K:PySem.W.Frag}
end
end VL
namespace L2
open PySem PySem.Spec PyProof.Rows VL
section
variable {X:Cx} {pins:List (Addr×Obj)} {σ:St} {f:Addr} {o:Obj} {q:Str} {params:Arguments} {body:Expr} {scope:Scope} {cl:List (Str×Addr)} {x:Str} {zs:List Str} {is:List Nat} {te:TE} {Fin:V→Hp→Prop} {kw:List (Str×Value)} {l:Addr}
end
section
variable {X:Cx} {pins:List (Addr×Obj)} {σ:St} {q:Str} {params:Arguments} {body:Expr} {scope:Scope} {cl:List (Str×Addr)} {x:Str} {zs:List Str} {is:List Nat} {te:TE}
end
end L2
namespace VL
open PySem L2
open Classical
noncomputable section
variable [Tabs] {K:PySem.W.Frag}
end
end VL
namespace L2
open PySem PySem.Spec PyProof.Rows VL
def Rs (xs:Array Nat):Prop:=xs.toList.Pairwise (· < ·)
structure TabG (led:Bool) (t:SetTable):Prop where
  led:t.led=led
  up:Rs t.place
section
variable {prog:Program} {w:World} {A:Around} {E:Value→Shared→Prop} {s:Shared}
end
end L2
namespace L2
open PySem PySem.Spec PyProof.Rows VL
structure Once (val:Nat→Int) (i:Nat) (ks:List Int):Prop where
  nd:ks.Nodup
  mem:∀ x,x∈ks↔∃ j,j<i∧val j=x
  len:ks.length≤i
section
variable {prog:Program} {w:World} {A:Around} {R:Result→Shared→Prop} {I:Addr} {fp wr:List Addr} {Gn:Array GenState→Array GenState→Prop} {n:Nat} {P:Nat→Value→Prop} {St:Nat→Shared→Prop}
end
section
variable {prog:Program} {w:World} {A:Around} {E:Value→Shared→Prop} {s:Shared}
end
end L2
namespace L2
open PySem PySem.Spec PyProof.Rows VL
section
variable {prog:Program} {w:World} {A:Around} {E:Value→Shared→Prop} {s:Shared} {I S:Addr} {n ep:Nat} {es:Array (Int×Value)} {t:SetTable}
end
end L2
namespace L2
open PySem PySem.Spec PyProof.Rows VL
section
variable {prog:Program} {w:World} {A:Around} {E:Value→Shared→Prop} {s:Shared} {I S:Addr} {ep:Nat} {es:Array (Int×Value)} {t:SetTable}
end
end L2
namespace L2
open PySem PySem.Spec PyProof.Rows VL
section
variable {prog:Program} {w:World} {A:Around} {E:Value→Shared→Prop} {s:Shared} {S:Addr} {ep:Nat} {es:Array (Int×Value)} {t:SetTable}
end
end L2
namespace L2
open PySem PySem.Spec PyProof.Rows VL
end L2
namespace VL
open PySem L2
open Classical
noncomputable section
variable [Tabs] {K:PySem.W.Frag}
omit [Tabs] in
end
end VL
namespace VL
open PySem L2
open Classical
noncomputable section
variable [Tabs] {K:PySem.W.Frag}
end
end VL
namespace L2
open PySem PySem.Spec PyProof.Rows VL
end L2
namespace VL
open PySem L2
open Classical
noncomputable section
variable [Tabs] {K:PySem.W.Frag}
end
end VL
namespace VL
open PySem L2
open Classical
noncomputable section
variable [Tabs] {K:PySem.W.Frag} {fr:Fm}
def getZ (kvs:List (Int×Int)) (k:Int):Option Int:=(kvs.find? fun p=>decide (p.1=k)).map (·.2)
def putZ (kvs:List (Int×Int)) (k v:Int):List (Int×Int):=if kvs.any (fun p=>decide (p.1=k)) then kvs.map fun p=>if p.1=k then (p.1,v) else p else kvs++[(k,v)]
omit [Tabs] in
theorem val_dkv (k:Int):∀ kvs:List (Int×Int),L2.valV (kvs.map dkv) (.inl k)=(getZ kvs k).map V.int
  | []=>rfl
  | p::r=>by
    rw [List.map_cons]
    by_cases e:p.1=k
    · rw [L2.valV_pos (show (dkv p).1=.inl k by show Sum.inl p.1=_; rw [e])]
      unfold getZ
      rw [List.find?_cons_of_pos (by simpa using e)]
      rfl
    · rw [L2.valV_neg (show ¬ (dkv p).1=.inl k from fun z=>e (Sum.inl.inj z)),val_dkv k r]
      unfold getZ
      rw [List.find?_cons_of_neg (by simpa using e)]
theorem Is.isDct {H:Hp} {Z:Addr→Prop} {v:V} {kvs:List (Int×Int)} (h:Is K H Z v (.dct kvs)):∃ a,v=.ref a∧Rd H a (.dK (kvs.map dkv))∧kvs.length≤sizeLine:=by
  cases h with
  | dct hz h hl=>exact ⟨_,rfl,h,hl⟩
noncomputable def dGetD (a b:DE):DE:=fun ρ=>match a ρ,b ρ with
  | some (.dct kvs),some (.int k)=>(getZ kvs k).map D.int
  | _,_=>none
omit [Tabs] in
theorem ev_getD {a b:DE} {ρ:Rho} {k v:Int} {kvs:List (Int×Int)} (ha:a ρ=some (.dct kvs)) (hb:b ρ=some (.int k)) (h:getZ kvs k=some v):dGetD a b ρ=some (.int v):=by unfold dGetD; rw [ha,hb]; dsimp only; rw [h]; rfl
theorem si_getD {ta tb:TE} {a b:DE} (ha:SemB K ta a) (hb:SemB K tb b):SemI K (tDGet ta tb) (dGetD a b):=fun {B Z os ρ σ H Q d} f q k=>by
  unfold dGetD at q
  split at q
  · rename_i kvs i e1 e2
    obtain ⟨v,ev,rfl⟩:=Option.map_eq_some_iff.mp q
    refine ha f e1 fun w H1 s1 i1=>hb (f.grow s1) e2 fun u H2 s2 i2=>?_
    cases (i2.isInt)
    obtain ⟨x,rfl,rd,_⟩:=(i1.same s2).isDct
    refine ⟨x,.int v,rfl,.inl ⟨_,.inl i,rd,rfl,?_⟩,k _ _ (s1.trans s2) (.int _)⟩
    rw [val_dkv,ev]; rfl
  · cases q
end
end VL
namespace VL
open PySem L2
open Classical
noncomputable section
variable [Tabs] {K:PySem.W.Frag} {fr:Fm}
theorem any_dkv (k:Int):∀ kvs:List (Int×Int),((kvs.map dkv).any fun kv=>decide (kv.1=Sum.inl k))=kvs.any fun p=>decide (p.1=k)
  | []=>rfl
  | p::r=>by
    rw [List.map_cons,List.any_cons,List.any_cons,any_dkv k r]
    have e:decide ((dkv p).1=Sum.inl k)=decide (p.1=k):=by
      rw [Bool.eq_iff_iff,decide_eq_true_iff,decide_eq_true_iff]
      exact ⟨fun h=>Sum.inl.inj h,fun h=>by show Sum.inl p.1=_; rw [h]⟩
    rw [e]
omit [Tabs] in
theorem put_dkv (kvs:List (Int×Int)) (k v:Int):L2.putK (kvs.map dkv) (.inl k) (.int v)=(putZ kvs k v).map dkv:=by
  unfold L2.putK putZ
  rw [any_dkv]
  split
  · rw [List.map_map,List.map_map]
    refine List.map_congr_left fun p _=>?_
    show (if (dkv p).1=Sum.inl k then ((dkv p).1,V.int v) else dkv p)=dkv (if p.1=k then (p.1,v) else p)
    by_cases e:p.1=k
    · rw [if_pos e,if_pos (by show Sum.inl p.1=_; rw [e])]; rfl
    · rw [if_neg e,if_neg (show ¬ (dkv p).1=Sum.inl k from fun z=>e (Sum.inl.inj z))]
  · rw [List.map_append]; rfl
omit [Tabs] in
theorem putZ_len (kvs:List (Int×Int)) (k v:Int):(putZ kvs k v).length≤kvs.length+1:=by
  unfold putZ
  split
  · rw [List.length_map]; omega
  · rw [List.length_append,List.length_singleton]; omega
end
end VL
namespace VL
open PySem L2
open Classical
noncomputable section
variable [Tabs] {K:PySem.W.Frag} {fr:Fm}
section
variable {B H:Hp} {Z:Addr→Prop} {os:Own} {ρ:Rho} {σ:L2.St} {i:Nat} {a:Addr} {ps:List Addr} {rows:List (List D)}
theorem Fr.unpin (f:Fr K B Z os ρ σ H) (e:ρ.getD i .un=.pm a ps rows):Fr K B Z os (ρ.set i (.om rows)) σ H∧os i=a::ps:=by
  have s:=f.sl i
  rw [e] at s
  obtain ⟨eo,hu,hH,hl,r⟩:=s
  have hi:=getD_lt e (by intro z; cases z)
  refine ⟨⟨f.keep,f.zin,by rw [List.length_set]; exact f.len,f.nd,f.dj,f.new,fun j=>?_,f.tab⟩,eo⟩
  by_cases hj:j=i
  · subst hj
    rw [getD_set_same hi]
    exact ⟨a,ps,eo,hu,hH,hl,r⟩
  · rw [getD_set_ne hj]
    exact f.sl j
theorem Fr.pin (f:Fr K B Z os ρ σ H) (e:ρ.getD i .un=.om rows) (eo:os i=a::ps):Fr K B Z os (ρ.set i (.pm a ps rows)) σ H:=by
  have s:=f.sl i
  rw [e] at s
  obtain ⟨b,qs,eo',hu,hH,hl,r⟩:=s
  rw [eo] at eo'
  cases eo'
  have hi:=getD_lt e (by intro z; cases z)
  refine ⟨f.keep,f.zin,by rw [List.length_set]; exact f.len,f.nd,f.dj,f.new,fun j=>?_,f.tab⟩
  by_cases hj:j=i
  · subst hj
    rw [getD_set_same hi]
    exact ⟨eo,hu,hH,hl,r⟩
  · rw [getD_set_ne hj]
    exact f.sl j
end
theorem ms_all {ms:List Bool} {ip:Nat} (h:(ms.set ip true).all id=true):∀ j,j≠ip→ms.getD j true=true:=fun j hj=>by
  rw [List.getD_eq_getElem?_getD]
  by_cases c:j<ms.length
  · have e:(ms.set ip true)[j]?=ms[j]?:=List.getElem?_set_ne (Ne.symm hj)
    rw [List.getElem?_eq_getElem c] at e
    have:=List.all_eq_true.mp h ms[j] (List.mem_of_getElem? e)
    rw [List.getElem?_eq_getElem c]
    exact this
  · rw [List.getElem?_eq_none (by omega)]; rfl
theorem stD_bo {n:Nat} {ms:List Bool} {ds:List D} {j:Nat} {d:D} (h:(stD n ms ds).getD j .un=.bo d):ms.getD j true=false:=by
  unfold stD at h
  rw [List.getD_eq_getElem?_getD] at h
  by_cases hj:j<(List.zipWith slm ms ds).length
  · rw [List.getElem?_append_left hj,List.getElem?_zipWith] at h
    rw [List.length_zipWith] at hj
    rw [List.getElem?_eq_getElem (show j<ms.length by omega),List.getElem?_eq_getElem (show j<ds.length by omega)] at h
    rw [List.getD_eq_getElem?_getD,List.getElem?_eq_getElem (show j<ms.length by omega)]
    cases e:ms[j] with
    | false=>rfl
    | true=>rw [e] at h; cases h
  · rw [List.getElem?_append_right (by omega),List.getElem?_replicate] at h
    split at h <;> cases h
theorem pinFr {H:Hp} {Z:Addr→Prop} {N:List Str} {ms:List Bool} {vs:List V} {ds:List D} {ip:Nat} {a:Addr} {ps:List Addr} {rows:List (List D)} (hz:ZT Z H) (h:Args K H Z ms vs ds) (hm:∀ j,j≠ip→ms.getD j true=true) (hip:ip<N.length) (hv:vs[ip]?=some (.ref a)) (hn:(a::ps).Nodup) (hZ:∀ b∈a::ps,Z b) (hH:H a=some (.lst (ps.map V.ref))) (hl:ps.length≤sizeLine)
    (hp:Paired (fun p ds=>∃ vs,H p=some (.lst vs)∧vs.length≤sizeLine∧IsL K H Z vs ds) ps rows) :
    Fr K (fun b=>if b∈a::ps then none else H b) (fun b=>Z b∧b∉a::ps) (fun j=>if j=ip then a::ps else []) ((stD N.length ms ds).set ip (.pm a ps rows)) (L2.start N vs) H:=by
  have f0:=startFr (N:=N) hz h
  have tt:∀ b,tot (fun b=>Z b∧b∉a::ps) (fun j=>if j=ip then a::ps else []) b→Z b:=by
    rintro b (z | ⟨j,z⟩)
    · exact z.1
    · by_cases hj:j=ip
      · have z:b∈(if j=ip then a::ps else []):=z
        rw [if_pos hj] at z; exact hZ b z
      · have z:b∈(if j=ip then a::ps else []):=z
        rw [if_neg hj] at z; cases z
  have dom:∀ b∈a::ps,∃ vs,H b=some (.lst vs):=fun b hb=>by
    rcases List.mem_cons.mp hb with rfl | hb
    · exact ⟨_,hH⟩
    · obtain ⟨_,vs,q,_⟩:=Paired.any hp hb
      exact ⟨_,q⟩
  refine ⟨fun b o e=>?_,fun b z=>hz.1 b z.1,by rw [List.length_set]; exact f0.len,fun j=>?_,fun i j b h1 h2=>?_,fun i b hb=>?_,fun j=>?_,fun p hp'=>?_⟩
  · split at e
    · cases e
    · exact e
  · split
    · exact hn
    · exact List.nodup_nil
  · split at h1
    · split at h2
      · rename_i x y; rw [x,y]
      · cases h2
    · cases h1
  · split at hb
    · exact ⟨if_pos hb,fun z=>z.2 hb⟩
    · cases hb
  · by_cases hj:j=ip
    · subst hj
      have hlen:j<(stD N.length ms ds).length:=by rw [← f0.len]; unfold L2.start; rw [List.length_append,List.length_map,List.length_replicate]; omega
      rw [getD_set_same hlen]
      refine ⟨if_pos rfl,?_,hH,hl,Paired.mono hp fun q ds _ ⟨vs,h1,h2,h3⟩=>⟨vs,h1,h2,h3.kp (Kp.less tt)⟩⟩
      unfold L2.start
      have hjv:=(List.getElem?_eq_some_iff.mp hv).1
      rw [List.getElem?_append_left (by rw [List.length_map]; exact hjv),List.getElem?_map,hv]
      rfl
    · rw [getD_set_ne hj]
      rw [if_neg hj]
      have s:=f0.sl j
      cases e:(stD N.length ms ds).getD j .un with
      | un=>exact rfl
      | pu d=>rw [e] at s; obtain ⟨_,u,hu,i1⟩:=s; exact ⟨rfl,u,hu,i1.kp (Kp.less fun b z=>.inl (tt b z))⟩
      | bo d=>have:=stD_bo e; rw [hm j hj] at this; cases this
      | ol d=>rw [e] at s; obtain ⟨_,_,z,_⟩:=s; cases z
      | om d=>rw [e] at s; obtain ⟨_,_,z,_⟩:=s; cases z
      | od d=>rw [e] at s; obtain ⟨_,z,_⟩:=s; cases z
      | pm _ _ d=>rw [e] at s; obtain ⟨z,_⟩:=s; cases z
      | pd _ d=>rw [e] at s; obtain ⟨z,_⟩:=s; cases z
  · obtain ⟨t,e⟩:=hz.2 p hp'
    refine ⟨t,?_⟩
    rw [if_neg]
    · exact e
    · intro hb
      obtain ⟨vs,q⟩:=dom _ hb
      rw [e] at q; cases q
@[irreducible] def runU (n ip:Nat) (ms:List Bool) (b:DS) (a:Addr) (ps:List Addr) (ds:List D):Option (List (List D)):=match ds[ip]? with
  | some (.lst rs)=>(match unrows rs with
    | some rows=>(match b ((stD n ms ds).set ip (.pm a ps rows)) with
      | .nx ρ=>(match ρ.getD ip .un with
        | .pm a' ps' rows'=>if a'=a∧ps'=ps then some rows' else none
        | _=>none)
      | _=>none)
    | none=>none)
  | _=>none
def SemU (K:PySem.W.Frag) (i ip:Nat) (ms:List Bool) (t:TA) (e:Rho→Option (List D)):Prop:=∀ {B:Hp} {Z:Addr→Prop} {os:Own} {ρ:Rho} {σ:L2.St} {H:Hp} {Q:List V→Hp→Prop} {ds:List D},Fr K B Z os ρ σ H→e ρ=some ds→(∀ vs H',Same H H'→Args K H' (tot Z os) ms vs ds→vs[ip]?=(σ[i]?).join→ds[ip]?=dVar i ρ→Q vs H')→t σ H Q
theorem su_here {i:Nat} {ms:List Bool} {tr:TA} {es:Rho→Option (List D)} (hr:SemA K ms tr es):SemU K i 0 (false::ms) (tCons (tVar i) tr) (dCons (dVar i) es):=fun {B Z os ρ σ H Q ds} f q k=>by
  obtain ⟨d,r,e1,e2,rfl⟩:=dCons_some q
  have hv:∃ u,(σ[i]?).join=some u∧Is K H No u d:=by
    have:=sb_var (K:=K) i f (Q:=fun v H'=>(σ[i]?).join=some v∧H'=H∧Is K H No v d) e1
    have s:=f.sl i
    unfold dVar at e1
    cases e:ρ.getD i .un with
    | un=>rw [e] at e1; cases e1
    | pu d'=>rw [e] at e1 s; cases e1; obtain ⟨_,u,hu,i1⟩:=s; exact ⟨u,hu,i1.all⟩
    | bo d'=>rw [e] at e1 s; cases e1; obtain ⟨_,u,hu,i1⟩:=s; exact ⟨u,hu,i1.same f.keep⟩
    | ol ds=>rw [e] at e1 s; cases e1; obtain ⟨a,vs,_,hu,hH,hl,i1⟩:=s; exact ⟨_,hu,.lst (fun z=>z) (.inl hH) hl i1.all⟩
    | om rows=>rw [e] at e1 s; cases e1; obtain ⟨a,ps,_,hu,hH,hl,i1⟩:=s; exact ⟨_,hu,.lst (fun z=>z) (.inl hH) (by rw [List.length_map]; exact hl) (rows_is i1)⟩
    | od kvs=>rw [e] at e1 s; cases e1; obtain ⟨a,_,hu,hH,hl⟩:=s; exact ⟨_,hu,.dct (fun z=>z) (.inl hH) hl⟩
    | pm a ps rows=>rw [e] at e1 s; cases e1; obtain ⟨_,hu,hH,hl,i1⟩:=s; exact ⟨_,hu,.lst (fun z=>z) (.inl hH) (by rw [List.length_map]; exact hl) (rows_is i1)⟩
    | pd a kvs=>rw [e] at e1 s; cases e1; obtain ⟨_,hu,hH,hl⟩:=s; exact ⟨_,hu,.dct (fun z=>z) (.inl hH) hl⟩
  obtain ⟨u,hu,iu⟩:=hv
  exact ⟨u,join_some hu,hr f e2 fun vs H' s a=>k (u::vs) H' s (.any (iu.same s) a) (by rw [hu]; rfl) (by rw [e1]; rfl)⟩
theorem su_next {i ip:Nat} {ms:List Bool} {ta:TE} {a:DE} {tr:TA} {es:Rho→Option (List D)} (ha:SemI K ta a) (hr:SemU K i ip ms tr es):SemU K i (ip+1) (true::ms) (tCons ta tr) (dCons a es):=fun {B Z os ρ σ H Q ds} f q k=>by
  obtain ⟨d,r,e1,e2,rfl⟩:=dCons_some q
  exact ha f e1 fun v H1 s1 i1=>hr (f.grow s1) e2 fun vs H2 s2 ar hv hd=>k (v::vs) H2 (s1.trans s2) (.own (i1.same s2) ar) hv hd
@[irreducible] noncomputable def sCallU (i:Nat) (F:Addr→List Addr→List D→Option (List (List D))) (es:Rho→Option (List D)):DS:=fun ρ=>match ρ.getD i .un with
  | .om rows=>(match es ρ with
    | some ds=>if h:∃ rows',∀ a ps,ps.length=rows.length→F a ps ds=some rows' then .nx (ρ.set i (.om h.choose)) else .no
    | none=>.no)
  | _=>.no
theorem wp_callU {i:Nat} {F:Addr→List Addr→List D→Option (List (List D))} {es:Rho→Option (List D)} {ρ:Rho} {W:Wk} {rows rows':List (List D)} {ds:List D} (h0:ρ.getD i .un=.om rows) (h1:es ρ=some ds) (h2:∀ a ps,ps.length=rows.length→F a ps ds=some rows') (k:W.nx (ρ.set i (.om rows'))):Wp (sCallU i F es) ρ W:=by
  have ex:∃ rows',∀ a ps,ps.length=rows.length→F a ps ds=some rows':=⟨_,h2⟩
  have e:ex.choose=rows':=by
    have q:=ex.choose_spec 0 (List.replicate rows.length 0) (List.length_replicate ..)
    rw [h2 0 _ (List.length_replicate ..)] at q
    exact (Option.some.inj q).symm
  unfold Wp sCallU
  rw [h0]
  simp only [h1]
  rw [dif_pos ex,e]
  exact k
theorem run_eqU {F:Addr→List Addr→List D→Option (List (List D))} {n ip:Nat} {ms:List Bool} {b:DS} (hF:F=runU n ip ms b) {a:Addr} {ps:List Addr} {ds:List D} {rows rows':List (List D)} (hd:ds[ip]?=some (rowsL rows)) (h:Wp b ((stD n ms ds).set ip (.pm a ps rows)) { nx:=fun ρ=>ρ.getD ip .un=.pm a ps rows',rt:=fun _=>False }):F a ps ds=some rows':=by
  subst hF
  unfold runU
  rw [hd]
  unfold rowsL
  dsimp only
  rw [unrows_map]
  dsimp only
  unfold Wp at h
  split at h
  · rename_i ρ e
    rw [e]
    dsimp only
    rw [show ρ.getD ip .un=.pm a ps rows' from h]
    exact if_pos ⟨rfl,rfl⟩
  · exact h.elim
  · exact h.elim
  · exact h.elim
  · exact h.elim
end
end VL
namespace L2
open PySem PySem.Spec PyProof.Rows VL
section
variable {X:Cx} {tg:Expr}
end
end L2
namespace VL
open PySem L2
open Classical
noncomputable section
variable [Tabs] {K:PySem.W.Frag} {fr:Fm}
end
end VL
namespace PySem
open Sem (wp)
section
variable {prog:Program} {w:World} {A:Around} {E:Value→Shared→Prop} {s:Shared}
end
end PySem
namespace PySem
open Sem (wp)
namespace F
end F
section
variable {prog:Program} {w:World} {A:Around} {E:Value→Shared→Prop} {s:Shared}
end
end PySem
namespace L2
open PySem PySem.Spec PyProof.Rows VL
section
variable {P:Program} {w:World} {H:Hp} {h:Heap}
end
end L2
namespace VL
open PySem L2
open Classical
noncomputable section
variable [Tabs] {K:PySem.W.Frag}
end
end VL
namespace VL
open PySem L2
open Classical
noncomputable section
variable [Tabs] {K:PySem.W.Frag}
end
end VL
namespace L2
open PySem PySem.Spec PyProof.Rows VL
open Builtin.Str (occurrences subAt strSub partsBetween glued strKind tooLong)
section
variable {X:Cx}
end
end L2
namespace VL
open PySem L2
open Builtin.Str (occurrences subAt strSub partsBetween glued strKind tooLong)
open Classical
noncomputable section
variable [Tabs] {K:PySem.W.Frag} {ta tb:TE} {a b:DE}
end
end VL
namespace L2
open PySem PySem.Spec PyProof.Rows VL
open Builtin.Str (occurrences subAt strSub partsBetween glued strKind tooLong strSliceIndices)
section
variable {X:Cx}
end
end L2
namespace VL
open PySem L2
open Builtin.Str (occurrences subAt strSub partsBetween glued strKind tooLong)
open Classical
noncomputable section
variable [Tabs] {K:PySem.W.Frag} {ta tb:TE} {a b:DE}
end
end VL
namespace L2
open PySem PySem.Spec PyProof.Rows VL
structure MkP (K:PySem.W.Frag) (C:Addr):Prop where
  makes:PySem.W.makesIn K C=true
  init:PySem.W.findIn K (.ref C) "__init__" = some (some (.builtin "object.__init__"))
  kp:PySem.W.keepIn K (.ref C)=true
section
variable {X:Cx}
inductive MTab (X:Cx) (m:Str):List (Addr×Sp)→Prop
  | nil:MTab X m []
  | cons {C f:Addr} {fd:FuncData} {ps:List Str} {sp:Sp} {k:Nat} {tbl:List (Addr×Sp)} (c:Cls X.K C) (hm:Meth X.K C m f) (F:FnOk X.prog X.w X.K X.mg X.base CX0 k f fd ps sp) (hr:Room k X.A) (hb:Binds X.K fd ps []) (r:MTab X m tbl):MTab X m ((C,sp)::tbl)
structure ClsI (K:PySem.W.Frag) (C:Addr):Prop where
  cl:Cls K C
  ha:PySem.W.findIn K (.ref C) "__class__" = some (some (.builtin "object.__class__"))
  hn:PySem.W.specialIn K (.builtin "object.__class__") "__get__" = some (some (.builtin "getset_descriptor.__get__"))
  htk:PySem.W.takesIn K (.builtin "object.__class__")=some true
  hm:PySem.W.mroIn K C (.type "object")=some true
end
end L2
namespace VL
open PySem L2
open Classical
noncomputable section
variable [Tabs] {K:PySem.W.Frag} {ta tb:TE} {a b:DE}
inductive KTab (K:PySem.W.Frag) (c:Addr):List (Addr×Bool)→Prop
  | nil:KTab K c []
  | cons {C:Addr} {b:Bool} {r:List (Addr×Bool)} (k:ClsI K C) (e:PySem.W.kitOne K (.ref C) (.ref c)=some b) (h:KTab K c r):KTab K c ((C,b)::r)
end
end VL
namespace VL
open PySem L2
open Classical
noncomputable section
variable [Tabs] {K:PySem.W.Frag} {fr:Fm}
@[irreducible] noncomputable def sPut2P (i:Nat) (b c a:DE):DS:=fun ρ=>match ρ.getD i .un with
  | .pm q0 qs rows=>(match a ρ with
    | some d=>(match b ρ with
      | some (.int n)=>(match ixN rows.length n with
        | some r=>(match rows[r]? with
          | some ds=>(match c ρ with
            | some (.int m)=>(match ixN ds.length m with
              | some j=>.nx (ρ.set i (.pm q0 qs (rows.set r (ds.set j d))))
              | none=>.no)
            | _=>.no)
          | none=>.no)
        | none=>.no)
      | _=>.no)
    | none=>.no)
  | _=>.no
theorem ss_put2P {i:Nat} {ta tb tc:TE} {a b c:DE} (ha:SemI K ta a) (hb:SemB K tb b) (hc:SemB K tc c):SemS fr K (tAsg ta (gSub (tOp (rIx K) (tVar i) tb) tc rSetL)) (sPut2P i b c a):=fun {B Z os ρ σ H E} f p=>by
  unfold sPut2P at p
  split at p
  · rename_i q0 qs rows e
    split at p
    · rename_i d e1
      split at p
      · rename_i n e2
        split at p
        · rename_i r e3
          split at p
          · rename_i ds e4
            split at p
            · rename_i m e5
              split at p
              · rename_i j e6
                obtain ⟨f0,eo0⟩:=f.unpin e
                have hi:=getD_lt e (by intro z; cases z)
                have e':(ρ.set i (.om rows)).getD i .un=.om rows:=getD_set_same hi
                obtain ⟨x,ps,q,vs,eo,hu,hH,hat,hr,hq,hl,il⟩:=row_at f0 e' e3 e4
                rw [eo0] at eo
                cases eo
                refine ha f e1 fun v H1 s1 i1=>⟨_,join_some hu,hb (f.grow s1) e2 fun w H2 s2 i2=>?_⟩
                have s12:=s1.trans s2
                refine .inl ⟨q0,qs.map V.ref,n,.ref q,rfl,i2.isInt,SqL.of (s12 _ _ hH),hat,hc (f.grow s12) e5 fun u H3 s3 i3=>?_⟩
                have s13:=s12.trans s3
                have f3:=f0.grow s13
                obtain ⟨f',k⟩:=f3.mutM1 (vs':=vs.set j v) (ds':=ds.set j d) e' eo0 hu hr (by rw [List.length_set]; exact hl) ((il.same s13).set ((i1.same s2).same s3) j)
                have f'':=f'.pin (a:=q0) (ps:=qs) (getD_set_same (by rw [List.length_set]; exact hi)) putO_same
                rw [List.set_set,List.set_set] at f''
                exact ⟨q,vs,m,j,rfl,i3.isInt,s13 _ _ hq,by rw [il.length]; exact e6,p _ _ _ f'' ((Kp.same s13).trans k)⟩
              · exact p.elim
            · exact p.elim
          · exact p.elim
        · exact p.elim
      · exact p.elim
    · exact p.elim
  · exact p.elim
theorem wp_put2P {i:Nat} {e c a:DE} {ρ:Rho} {W:Wk} {q0:Addr} {qs:List Addr} {rows:List (List D)} {ds:List D} {d:D} {n m:Int} {r j:Nat} (h0:ρ.getD i .un=.pm q0 qs rows) (h1:a ρ=some d) (h2:e ρ=some (.int n)) (h3:ixN rows.length n=some r) (h4:rows[r]?=some ds) (h5:c ρ=some (.int m)) (h6:ixN ds.length m=some j) (k:W.nx (ρ.set i (.pm q0 qs (rows.set r (ds.set j d))))):Wp (sPut2P i e c a) ρ W:=by
  unfold Wp sPut2P; rw [h0]; simp only [h1,h2,h3,h4,h5,h6]; exact k
def SemR (K:PySem.W.Frag) (t:TS) (s:DS):Prop:=∀ {B:Hp} {Z:Addr→Prop} {os:Own} {ρ ρ':Rho} {σ:L2.St} {H:Hp} {E:Ends},Fr K B Z os ρ σ H→s ρ=.nx ρ'→(∀ os' σ' H',Fr K B Z os' ρ' σ' H'→E.rt (.bl true) H')→t E σ H
theorem sr_ret:SemR K (tRet (tC (.bl true))) sPass:=fun f e p=>by unfold sPass at e; cases e; exact p _ _ _ f
theorem sr_seq {t u:TS} {s w:DS} (h1:SemS .v K t s) (h2:SemR K u w):SemR K (tSeq t u) (sSeq s w):=fun {B Z os ρ ρ' σ H E} f e p=>by
  unfold sSeq at e
  refine h1 f ?_
  cases q:s ρ with
  | nx ρ1=>rw [q] at e; exact fun os' σ' H' f' k=>h2 f' e p
  | bk ρ1=>rw [q] at e; cases e
  | ct ρ1=>rw [q] at e; cases e
  | rt d=>rw [q] at e; cases e
  | no=>rw [q] at e; cases e
def spUT (K:PySem.W.Frag) (ip:Nat) (ms:List Bool) (F:Addr→List Addr→List D→Option (List (List D))):Sp:=fun vs H Q _=>∃ (Z:Addr→Prop) (ds:List D) (a:Addr) (ps:List Addr) (rows rows':List (List D)),
  ZT Z H∧Args K H Z ms vs ds∧vs[ip]?=some (.ref a)∧ds[ip]?=some (rowsL rows)∧(a::ps).Nodup∧(∀ b∈a::ps,Z b)∧H a=some (.lst (ps.map V.ref))∧ps.length≤sizeLine∧Paired (fun p ds=>∃ vs,H p=some (.lst vs)∧vs.length≤sizeLine∧IsL K H Z vs ds) ps rows∧F a ps ds=some rows' ∧
  ∀ H',(∀ b o,H b=some o→b∉a::ps→H' b=some o)→H' a=some (.lst (ps.map V.ref))→Paired (fun p ds=>∃ vs,H' p=some (.lst vs)∧vs.length≤sizeLine∧IsL K H' Z vs ds) ps rows'→Q (.bl true) H'
theorem Fun.okUT {P:Program} {w:World} {mg:Str→Option Value} {base:Heap} {x qual:Str} {st:Stmt} {f:Addr} {fd:FuncData} {N qs:List Str} {k:Nat} (F:Fun K x qual st f fd) (S:FnScope N qs (defScope st)) (ip:Nat) (ms:List Bool) (hms:ms.length=qs.length) (hm:∀ j,j≠ip→ms.getD j true=true) (hip:ip<N.length) (b:DS)
    (hbody:∀ (cdv:Value) (A:Around) (outer:List Env) (s:Shared) (H:Hp) (E:XK),Room k (A.deeper (PyProof.Rows.envOfC qual (defScope st) s.heap.objs.size f cdv)) →
      ∃ t,PSs (cxOf CX0 P w K mg base N qual (defScope st) f cdv A outer s H E).nox (defBody st) t∧SemR K t b):FnOk P w K mg base CX0 (k+1) f fd qs (spUT K ip ms (runU N.length ip ms b)):=by
  refine F.ok S (fun vs H Q E h=>?_) (fun cdv A outer s H vs Q E hr h=>?_)
  · obtain ⟨Z,ds,_,_,_,_,hz,a,_⟩:=h
    rw [a.len.1,hms]
  · obtain ⟨Z,ds,a,ps,rows,rows',hz,ar,hv,hd,hn,hZ,hH,hl,hp,hF,k⟩:=h
    obtain ⟨t,h1,h2⟩:=hbody cdv A outer s H E hr
    unfold runU at hF
    rw [hd] at hF
    unfold rowsL at hF
    dsimp only at hF
    rw [unrows_map] at hF
    dsimp only at hF
    split at hF
    · rename_i ρ e1
      split at hF
      · rename_i a' ps' r' e2
        split at hF
        · rename_i e3
          obtain ⟨rfl,rfl⟩:=e3
          cases hF
          refine ⟨t,h1,h2 (pinFr hz ar hm hip hv hn hZ hH hl hp) e1 ?_⟩
          intro os' σ' H' f'
          have s':=f'.sl ip
          rw [e2] at s'
          obtain ⟨eo,hu,hH',hl',pr⟩:=s'
          refine k H' (fun b o e n=>f'.keep b o ?_) hH' (Paired.mono pr fun q ds _ ⟨us,g1,g2,g3⟩=>⟨us,g1,g2,g3.kp (Kp.less fun b z=>?_)⟩)
          · rw [if_neg n]; exact e
          · by_cases hb:b∈a'::ps'
            · exact .inr ⟨ip,by rw [eo]; exact hb⟩
            · exact .inl ⟨z,hb⟩
        · cases hF
      · cases hF
    · cases hF
@[irreducible] noncomputable def sIfU (c:Rho→Option Bool) (i:Nat) (F:Addr→List Addr→List D→Option (List (List D))) (es:Rho→Option (List D)):DS:=fun ρ=>match c ρ with
  | some false=>sCallU i F es ρ
  | _=>.no
theorem wp_ifU {c:Rho→Option Bool} {i:Nat} {F:Addr→List Addr→List D→Option (List (List D))} {es:Rho→Option (List D)} {ρ:Rho} {W:Wk} {rows rows':List (List D)} {ds:List D} (hc:c ρ=some false) (h0:ρ.getD i .un=.om rows) (h1:es ρ=some ds) (h2:∀ a ps,ps.length=rows.length→F a ps ds=some rows') (k:W.nx (ρ.set i (.om rows'))):Wp (sIfU c i F es) ρ W:=by
  have:=wp_callU (W:=W) h0 h1 h2 k
  unfold Wp sIfU at *
  rw [hc]
  exact this
theorem ss_ifU {i ip:Nat} {ms:List Bool} {F:Addr→List Addr→List D→Option (List (List D))} {tc:TT} {c:Rho→Option Bool} {t:TA} {es:Rho→Option (List D)} {u:TS} {E0:XK} (hc:SemT K tc c) (hu:SemU K i ip ms t es) :
    SemS fr K (tIfS (tOr tc (tNot (fun σ H Q=>tCall (spUT K ip ms F) [] E0 t σ H fun x H'=>∃ k,TruV K x H' k∧Q k H'))) u tNext) (sIfU c i F es):=fun {B Z os ρ σ H E} f p=>by
  unfold sIfU at p
  split at p
  · rename_i ec
    refine hc f ec fun H0 s0=>iteF ?_
    replace f:=f.grow s0
    replace p:=p.kp (Kp.same s0)
    unfold sCallU at p
    split at p
    · rename_i rows e
      split at p
      · rename_i ds e1
        split at p
        · rename_i ex
          have hF:=ex.choose_spec
          generalize ex.choose=rows' at p hF
          refine hu f e1 fun vs H1 s1 ar hv hd=>?_
          show spUT K ip ms F (vs++[]) H1 _ E0
          rw [List.append_nil]
          have f1:=f.grow s1
          obtain ⟨a,ps,eo,hua,hH,hl,hln,pr⟩:=om_of f1 e
          have hn:=f1.nd i
          rw [eo] at hn
          have hi:=getD_lt e (by intro z; cases z)
          refine ⟨tot Z os,ds,a,ps,rows,rows',f1.zt,ar,by rw [hv,hua],by rw [hd]; unfold dVar; rw [e]; rfl,hn,fun b hb=>.inr ⟨i,by rw [eo]; exact hb⟩,hH,hl,pr,hF a ps hln,fun H' hk ha hp=>⟨true,rfl,iteF ?_⟩⟩
          have tt:tot Z (putO os i (a::ps))=tot Z os:=by
            funext c
            apply propext
            constructor
            · rintro (z | ⟨j,z⟩)
              · exact .inl z
              · by_cases hj:j=i
                · subst hj; rw [putO_same] at z; exact .inr ⟨j,by rw [eo]; exact z⟩
                · rw [putO_ne hj] at z; exact .inr ⟨j,z⟩
            · rintro (z | ⟨j,z⟩)
              · exact .inl z
              · by_cases hj:j=i
                · subst hj; exact .inr ⟨j,by rw [putO_same,← eo]; exact z⟩
                · exact .inr ⟨j,by rw [putO_ne hj]; exact z⟩
          have st:=f1.step (H':=H') (i:=i) hi (o:=a::ps) (s:=.om rows') (v:=some (.ref a)) (fun b u e n=>hk b u e (by rw [← eo]; exact n)) (fun b hb=>?_) hn (fun b hb=>by rw [← eo] at hb; exact .inl hb)
            ⟨a,ps,rfl,rfl,ha,hl,by rw [tt]; exact hp⟩
          · rw [set_self hua] at st
            exact p _ _ _ st.1 ((Kp.same s1).trans st.2)
          · rw [eo] at hb
            rcases List.mem_cons.mp hb with rfl | hb
            · exact ⟨_,ha⟩
            · obtain ⟨_,us,q,_⟩:=Paired.any hp hb
              exact ⟨_,q⟩
        · exact p.elim
      · exact p.elim
    · exact p.elim
  · exact p.elim
end
end VL
set_option maxHeartbeats 4000000
namespace My
open PySem L2 VL
def top (i:Nat):Stmt:=PySem.Challenge.pw_leastfloor_k22_whole_phases.main.body.getD i (.Pass ⟨0,0,0,0⟩)
noncomputable abbrev s_loads:Stmt:=top 1
noncomputable abbrev s_open_end:Stmt:=top 2
noncomputable abbrev s_phases:Stmt:=top 3
noncomputable abbrev s_urgent_pairs:Stmt:=top 4
noncomputable abbrev s_offers:Stmt:=top 5
noncomputable abbrev s_taker_of_each:Stmt:=top 6
noncomputable abbrev s_take_one:Stmt:=top 7
noncomputable abbrev s_longest_hours:Stmt:=top 8
noncomputable abbrev s_l_whole:Stmt:=top 10
noncomputable abbrev s_l_cell_at:Stmt:=top 11
noncomputable abbrev s_l_mixed:Stmt:=top 12
noncomputable abbrev s_l_numbers:Stmt:=top 13
noncomputable abbrev s_l_size:Stmt:=top 14
noncomputable abbrev s_l_hours:Stmt:=top 15
noncomputable abbrev s_l_table:Stmt:=top 16
noncomputable abbrev s_l_sums:Stmt:=top 17
noncomputable abbrev s_l_end:Stmt:=top 18
noncomputable abbrev s_l_two:Stmt:=top 19
noncomputable abbrev s_l_phase:Stmt:=top 20
noncomputable abbrev s_l_is_phases:Stmt:=top 21
noncomputable abbrev s_law:Stmt:=top 22
theorem sc_loads:FnScope ["table", "benches", "columns"] ["table"] (defScope s_loads):=⟨rfl,rfl,rfl,by decide +kernel,rfl,by decide +kernel,by decide +kernel⟩
theorem sc_open_end:FnScope ["table", "sums"] ["table"] (defScope s_open_end):=⟨rfl,rfl,rfl,by decide +kernel,rfl,by decide +kernel,by decide +kernel⟩
theorem sc_phases:FnScope ["table", "left", "rest", "told", "pairs", "hours", "hand", "bench"] ["table"] (defScope s_phases):=⟨rfl,rfl,rfl,by decide +kernel,rfl,by decide +kernel,by decide +kernel⟩
theorem sc_urgent_pairs:FnScope ["left", "rest", "takers", "benches", "pairs"] ["left", "rest"] (defScope s_urgent_pairs):=⟨rfl,rfl,rfl,by decide +kernel,rfl,by decide +kernel,by decide +kernel⟩
theorem sc_offers:FnScope ["left", "rest", "sums", "hands", "benches", "told", "hand", "load", "bench"] ["left", "rest"] (defScope s_offers):=⟨rfl,rfl,rfl,by decide +kernel,rfl,by decide +kernel,by decide +kernel⟩
theorem sc_taker_of_each:FnScope ["offered", "takers", "taker"] ["offered"] (defScope s_taker_of_each):=⟨rfl,rfl,rfl,by decide +kernel,rfl,by decide +kernel,by decide +kernel⟩
theorem sc_take_one:FnScope ["offered", "taker", "takers", "asked", "thing"] ["offered", "taker", "takers", "asked"] (defScope s_take_one):=⟨rfl,rfl,rfl,by decide +kernel,rfl,by decide +kernel,by decide +kernel⟩
theorem sc_longest_hours:FnScope ["left", "rest", "pairs", "sums", "hands", "benches", "bounds"] ["left", "rest", "pairs"] (defScope s_longest_hours):=⟨rfl,rfl,rfl,by decide +kernel,rfl,by decide +kernel,by decide +kernel⟩
theorem sc_l_whole:FnScope ["_law_found"] ["_law_found"] (defScope s_l_whole):=⟨rfl,rfl,rfl,by decide +kernel,rfl,by decide +kernel,by decide +kernel⟩
theorem sc_l_cell_at:FnScope ["_law_script", "_law_k"] ["_law_script", "_law_k"] (defScope s_l_cell_at):=⟨rfl,rfl,rfl,by decide +kernel,rfl,by decide +kernel,by decide +kernel⟩
theorem sc_l_mixed:FnScope ["_law_cell", "_law_k", "_law_number"] ["_law_cell", "_law_k"] (defScope s_l_mixed):=⟨rfl,rfl,rfl,by decide +kernel,rfl,by decide +kernel,by decide +kernel⟩
theorem sc_l_numbers:FnScope ["_law_script", "_law_numbers_here", "_law_k"] ["_law_script"] (defScope s_l_numbers):=⟨rfl,rfl,rfl,by decide +kernel,rfl,by decide +kernel,by decide +kernel⟩
theorem sc_l_size:FnScope ["_law_cell"] ["_law_cell"] (defScope s_l_size):=⟨rfl,rfl,rfl,by decide +kernel,rfl,by decide +kernel,by decide +kernel⟩
theorem sc_l_hours:FnScope ["_law_number", "_law_mode"] ["_law_number", "_law_mode"] (defScope s_l_hours):=⟨rfl,rfl,rfl,by decide +kernel,rfl,by decide +kernel,by decide +kernel⟩
theorem sc_l_table:FnScope ["_law_script", "_law_numbers_here", "_law_cell", "_law_hands", "_law_many", "_law_table_here", "_law_hand", "_law_row", "_law_bench", "_law_idle"] ["_law_script"] (defScope s_l_table):=⟨rfl,rfl,rfl,by decide +kernel,rfl,by decide +kernel,by decide +kernel⟩
theorem sc_l_sums:FnScope ["_law_table_here", "_law_hands", "_law_many"] ["_law_table_here"] (defScope s_l_sums):=⟨rfl,rfl,rfl,by decide +kernel,rfl,by decide +kernel,by decide +kernel⟩
theorem sc_l_end:FnScope ["_law_table_here", "_law_found"] ["_law_table_here"] (defScope s_l_end):=⟨rfl,rfl,rfl,by decide +kernel,rfl,by decide +kernel,by decide +kernel⟩
theorem sc_l_two:FnScope ["_law_pair", "_law_hands", "_law_many"] ["_law_pair", "_law_hands", "_law_many"] (defScope s_l_two):=⟨rfl,rfl,rfl,by decide +kernel,rfl,by decide +kernel,by decide +kernel⟩
theorem sc_l_phase:FnScope ["_law_phase_here", "_law_table_here", "_law_done", "_law_hands", "_law_some", "_law_pair"] ["_law_phase_here", "_law_table_here", "_law_done"] (defScope s_l_phase):=⟨rfl,rfl,rfl,by decide +kernel,rfl,by decide +kernel,by decide +kernel⟩
theorem sc_l_is_phases:FnScope ["_law_table_here", "_law_found", "_law_done", "_law_total", "_law_phase_here"] ["_law_table_here", "_law_found"] (defScope s_l_is_phases):=⟨rfl,rfl,rfl,by decide +kernel,rfl,by decide +kernel,by decide +kernel⟩
theorem sc_law:FnScope ["_law_script", "_law_table_here", "_law_handed"] ["_law_script"] (defScope s_law):=⟨rfl,rfl,rfl,by decide +kernel,rfl,by decide +kernel,by decide +kernel⟩
set_option genInjectivity false in
set_option genSizeOf false in
structure Adr where
  f_loads:Addr
  d_loads:FuncData
  f_open_end:Addr
  d_open_end:FuncData
  f_phases:Addr
  d_phases:FuncData
  f_urgent_pairs:Addr
  d_urgent_pairs:FuncData
  f_offers:Addr
  d_offers:FuncData
  f_taker_of_each:Addr
  d_taker_of_each:FuncData
  f_take_one:Addr
  d_take_one:FuncData
  f_longest_hours:Addr
  d_longest_hours:FuncData
  f_l_whole:Addr
  d_l_whole:FuncData
  f_l_cell_at:Addr
  d_l_cell_at:FuncData
  f_l_mixed:Addr
  d_l_mixed:FuncData
  f_l_numbers:Addr
  d_l_numbers:FuncData
  f_l_size:Addr
  d_l_size:FuncData
  f_l_hours:Addr
  d_l_hours:FuncData
  f_l_table:Addr
  d_l_table:FuncData
  f_l_sums:Addr
  d_l_sums:FuncData
  f_l_end:Addr
  d_l_end:FuncData
  f_l_two:Addr
  d_l_two:FuncData
  f_l_phase:Addr
  d_l_phase:FuncData
  f_l_is_phases:Addr
  d_l_is_phases:FuncData
  f_law:Addr
  d_law:FuncData
structure Txt [Tabs] (K:PySem.W.Frag) (mg:Str→Option Value) (a:Adr):Prop where
  F_loads:Fun K "loads" "loads" s_loads a.f_loads a.d_loads
  b_loads:Binds K a.d_loads ["table"] []
  m_loads:mg "loads" = some (.ref a.f_loads)
  F_open_end:Fun K "open_end" "open_end" s_open_end a.f_open_end a.d_open_end
  b_open_end:Binds K a.d_open_end ["table"] []
  m_open_end:mg "open_end" = some (.ref a.f_open_end)
  F_phases:Fun K "phases" "phases" s_phases a.f_phases a.d_phases
  b_phases:Binds K a.d_phases ["table"] []
  m_phases:mg "phases" = some (.ref a.f_phases)
  F_urgent_pairs:Fun K "urgent_pairs" "urgent_pairs" s_urgent_pairs a.f_urgent_pairs a.d_urgent_pairs
  b_urgent_pairs:Binds K a.d_urgent_pairs ["left", "rest"] []
  m_urgent_pairs:mg "urgent_pairs" = some (.ref a.f_urgent_pairs)
  F_offers:Fun K "offers" "offers" s_offers a.f_offers a.d_offers
  b_offers:Binds K a.d_offers ["left", "rest"] []
  m_offers:mg "offers" = some (.ref a.f_offers)
  F_taker_of_each:Fun K "taker_of_each" "taker_of_each" s_taker_of_each a.f_taker_of_each a.d_taker_of_each
  b_taker_of_each:Binds K a.d_taker_of_each ["offered"] []
  m_taker_of_each:mg "taker_of_each" = some (.ref a.f_taker_of_each)
  F_take_one:Fun K "take_one" "take_one" s_take_one a.f_take_one a.d_take_one
  b_take_one:Binds K a.d_take_one ["offered", "taker", "takers", "asked"] []
  m_take_one:mg "take_one" = some (.ref a.f_take_one)
  F_longest_hours:Fun K "longest_hours" "longest_hours" s_longest_hours a.f_longest_hours a.d_longest_hours
  b_longest_hours:Binds K a.d_longest_hours ["left", "rest", "pairs"] []
  m_longest_hours:mg "longest_hours" = some (.ref a.f_longest_hours)
  F_l_whole:Fun K "_law_whole" "_law_whole" s_l_whole a.f_l_whole a.d_l_whole
  b_l_whole:Binds K a.d_l_whole ["_law_found"] []
  m_l_whole:mg "_law_whole" = some (.ref a.f_l_whole)
  F_l_cell_at:Fun K "_law_cell_at" "_law_cell_at" s_l_cell_at a.f_l_cell_at a.d_l_cell_at
  b_l_cell_at:Binds K a.d_l_cell_at ["_law_script", "_law_k"] []
  m_l_cell_at:mg "_law_cell_at" = some (.ref a.f_l_cell_at)
  F_l_mixed:Fun K "_law_mixed" "_law_mixed" s_l_mixed a.f_l_mixed a.d_l_mixed
  b_l_mixed:Binds K a.d_l_mixed ["_law_cell", "_law_k"] []
  m_l_mixed:mg "_law_mixed" = some (.ref a.f_l_mixed)
  F_l_numbers:Fun K "_law_numbers" "_law_numbers" s_l_numbers a.f_l_numbers a.d_l_numbers
  b_l_numbers:Binds K a.d_l_numbers ["_law_script"] []
  m_l_numbers:mg "_law_numbers" = some (.ref a.f_l_numbers)
  F_l_size:Fun K "_law_size" "_law_size" s_l_size a.f_l_size a.d_l_size
  b_l_size:Binds K a.d_l_size ["_law_cell"] []
  m_l_size:mg "_law_size" = some (.ref a.f_l_size)
  F_l_hours:Fun K "_law_hours" "_law_hours" s_l_hours a.f_l_hours a.d_l_hours
  b_l_hours:Binds K a.d_l_hours ["_law_number", "_law_mode"] []
  m_l_hours:mg "_law_hours" = some (.ref a.f_l_hours)
  F_l_table:Fun K "_law_table" "_law_table" s_l_table a.f_l_table a.d_l_table
  b_l_table:Binds K a.d_l_table ["_law_script"] []
  m_l_table:mg "_law_table" = some (.ref a.f_l_table)
  F_l_sums:Fun K "_law_sums" "_law_sums" s_l_sums a.f_l_sums a.d_l_sums
  b_l_sums:Binds K a.d_l_sums ["_law_table_here"] []
  m_l_sums:mg "_law_sums" = some (.ref a.f_l_sums)
  F_l_end:Fun K "_law_end" "_law_end" s_l_end a.f_l_end a.d_l_end
  b_l_end:Binds K a.d_l_end ["_law_table_here"] []
  m_l_end:mg "_law_end" = some (.ref a.f_l_end)
  F_l_two:Fun K "_law_two" "_law_two" s_l_two a.f_l_two a.d_l_two
  b_l_two:Binds K a.d_l_two ["_law_pair", "_law_hands", "_law_many"] []
  m_l_two:mg "_law_two" = some (.ref a.f_l_two)
  F_l_phase:Fun K "_law_phase" "_law_phase" s_l_phase a.f_l_phase a.d_l_phase
  b_l_phase:Binds K a.d_l_phase ["_law_phase_here", "_law_table_here", "_law_done"] []
  m_l_phase:mg "_law_phase" = some (.ref a.f_l_phase)
  F_l_is_phases:Fun K "_law_is_phases" "_law_is_phases" s_l_is_phases a.f_l_is_phases a.d_l_is_phases
  b_l_is_phases:Binds K a.d_l_is_phases ["_law_table_here", "_law_found"] []
  m_l_is_phases:mg "_law_is_phases" = some (.ref a.f_l_is_phases)
  F_law:Fun K "law" "law" s_law a.f_law a.d_law
  b_law:Binds K a.d_law ["_law_script"] []
  m_law:mg "law" = some (.ref a.f_law)
  z_bool:mg "bool" = none
  z_enumerate:mg "enumerate" = none
  z_int:mg "int" = none
  z_isinstance:mg "isinstance" = none
  z_len:mg "len" = none
  z_list:mg "list" = none
  z_max:mg "max" = none
  z_min:mg "min" = none
  z_range:mg "range" = none
  z_sorted:mg "sorted" = none
  z_sum:mg "sum" = none
noncomputable section
theorem st_loads (x0:D):stD 3 [false] [x0]=[.bo x0,.un,.un]:=rfl
noncomputable def B_loads:DS:=(sSeq (sSet 1 (dIf (dTru (dVar 0)) (dF1 lenD (dIx (dVar 0) (dC (.int 0)))) (dC (.int 0))))
 (sSeq (sSet 2 (dLst (dComp 1 [0] (dRg1 (dVar 1)) (gN true 0) dTrue (dF1 sumD (dLst (dComp 1 [0] (asL (dVar 1)) (gN false 0) dTrue (gScal (dIx (dVar 0) (dVar 1)))))))))
 (sRet (dTup (dCons (dLst (dComp 1 [] (asL (dVar 0)) (gN false 0) dTrue (dF1 sumD (dVar 0)))) (dCons (dVarI 2) dNil))))))
@[irreducible] noncomputable def F_loads:List D→Option D:=runD 3 [false] B_loads
theorem F_loads_def:F_loads=runD 3 [false] B_loads:=by unfold F_loads; rfl
theorem st_open_end (x0:D):stD 2 [false] [x0]=[.bo x0,.un]:=rfl
noncomputable def B_open_end:DS:=(sSeq (sSet 1 (dCall F_loads (dCons (dVar 0) dNil)))
 (sRet (dMxD maxL (dLst (dCat (dIx (dVarI 1) (dC (.int 0))) (dIx (dVarI 1) (dC (.int 1))))) (dC (.int 0)))))
@[irreducible] noncomputable def F_open_end:List D→Option D:=runD 2 [false] B_open_end
theorem F_open_end_def:F_open_end=runD 2 [false] B_open_end:=by unfold F_open_end; rfl
theorem st_longest_hours (x0 x1 x2:D):stD 7 [false,false,false] [x0,x1,x2]=[.bo x0,.bo x1,.bo x2,.un,.un,.un,.un]:=rfl
noncomputable def B_longest_hours:DS:=(sSeq (sSet 3 (dCall F_loads (dCons (dVar 0) dNil)))
 (sSeq (sSet 4 (dLst (dComp 1 [] (asL (dVar 2)) (gN false 0) dTrue (gScal (dIx (dVar 0) (dC (.int 0)))))))
 (sSeq (sSet 5 (dLst (dComp 1 [] (asL (dVar 2)) (gN false 0) dTrue (gScal (dIx (dVar 0) (dC (.int 1)))))))
 (sSeq (sSetO 6 (dComp 1 [0] (asL (dVar 2)) (gN false 0) dTrue (gScal (dIx (dIx (dVar 1) (dIx (dVar 0) (dC (.int 0)))) (dIx (dVar 0) (dC (.int 1)))))))
 (sSeq (sExt 6 (dLst (dComp 2 [4,1] (dEn (dIx (dVarI 3) (dC (.int 0)))) (gUn 2 (gsCons (gN true 0) (gsCons (gN true 1) gsNil))) (dT (dIn true (dVar 0) (dVar 2))) (dSub (dVar 3) (dVar 1)))))
 (sSeq (sExt 6 (dLst (dComp 2 [5,1] (dEn (dIx (dVarI 3) (dC (.int 1)))) (gUn 2 (gsCons (gN true 0) (gsCons (gN true 1) gsNil))) (dT (dIn true (dVar 0) (dVar 2))) (dSub (dVar 3) (dVar 1)))))
 (sRet (dF1 minD (dVar 6)))))))))
@[irreducible] noncomputable def F_longest_hours:List D→Option D:=runD 7 [false,false,false] B_longest_hours
theorem F_longest_hours_def:F_longest_hours=runD 7 [false,false,false] B_longest_hours:=by unfold F_longest_hours; rfl
theorem st_offers (x0 x1:D):stD 9 [false,false] [x0,x1]=[.bo x0,.bo x1,.un,.un,.un,.un,.un,.un,.un]:=rfl
noncomputable def B_offers:DS:=(sSeq (sSet 2 (dCall F_loads (dCons (dVar 0) dNil)))
 (sSeq (sSet 3 (dF1 lenD (dIx (dVar 2) (dC (.int 0)))))
 (sSeq (sSet 4 (dF1 lenD (dIx (dVar 2) (dC (.int 1)))))
 (sSeq (sSetM 5 dMNil)
 (sSeq (sFor (dEn (dIx (dVarI 2) (dC (.int 0)))) (gUn 2 (gsCons (gN true 6) (gsCons (gN true 7) gsNil)))
 (sSeq (sAppM 5 (dComp 1 [0,6] (dRg1 (dVar 4)) (gN true 0) (dT (dGt (dIx (dIx (dVar 1) (dVar 2)) (dVar 0)) (dC (.int 0)))) (dVarI 0)))
 (sIf (dT (dLt (dVar 7) (dVar 1)))
 (sApp2 5 (dVar 6) (dAdd (dVar 4) (dVar 6)))
      sPass)))
 (sSeq (sFor (dEn (dIx (dVarI 2) (dC (.int 1)))) (gUn 2 (gsCons (gN true 8) (gsCons (gN true 7) gsNil)))
 (sSeq (sAppM 5 (dComp 1 [4] (dRg1 (dVar 3)) (gN true 0) dTrue (dAdd (dVar 1) (dVar 0))))
 (sIf (dT (dLt (dVar 7) (dVar 1)))
 (sApp2 5 (dAdd (dVar 3) (dVar 8)) (dVarI 8))
      sPass)))
    (sFrz 5 (sRet (dVarI 5)))))))))
@[irreducible] noncomputable def F_offers:List D→Option D:=runD 9 [false,false] B_offers
theorem F_offers_def:F_offers=runD 9 [false,false] B_offers:=by unfold F_offers; rfl
theorem getZ_put (kvs:List (Int×Int)) (k v j:Int):getZ (putZ kvs k v) j=if j=k then some v else getZ kvs j:=by
  have hm:∀ l:List (Int×Int),getZ (l.map fun p=>if p.1=k then (p.1,v) else p) j=if j=k then (getZ l j).map (fun _=>v) else getZ l j:=by
    intro l
    induction l with
    | nil=>unfold getZ; split <;> rfl
    | cons p r ih =>
      unfold getZ at ih ⊢
      rw [List.map_cons,List.find?_cons,List.find?_cons]
      have e1:(if p.1=k then (p.1,v) else p).1=p.1:=by split <;> rfl
      rw [e1]
      by_cases c:p.1=j
      · rw [decide_eq_true c]
        by_cases d:j=k
        · rw [if_pos d,if_pos (c.trans d)]; rfl
        · rw [if_neg d,if_neg (fun z=>d (c.symm.trans z))]
      · rw [decide_eq_false c]
        exact ih
  have ha:∀ l:List (Int×Int),getZ (l++[(k,v)]) j=(match getZ l j with | some u=>some u | none=>if j=k then some v else none):=by
    intro l
    induction l with
    | nil =>
      show (([(k,v)]:List (Int×Int)).find? _).map _=if j=k then some v else none
      rw [List.find?_cons]
      by_cases c:k=j
      · rw [decide_eq_true c,if_pos c.symm]; rfl
      · rw [decide_eq_false c,if_neg (fun z=>c z.symm)]; rfl
    | cons p r ih =>
      unfold getZ at ih ⊢
      rw [List.cons_append,List.find?_cons,List.find?_cons]
      by_cases c:p.1=j
      · rw [decide_eq_true c]; rfl
      · rw [decide_eq_false c]; exact ih
  unfold putZ
  by_cases c:kvs.any (fun p=>decide (p.1=k))=true
  · rw [if_pos c,hm]
    by_cases d:j=k
    · rw [if_pos d,if_pos d]
      obtain ⟨p,hp,e⟩:=List.any_eq_true.mp c
      have e:=of_decide_eq_true e
      cases q:getZ kvs j with
      | some u=>rfl
      | none =>
        unfold getZ at q
        rw [Option.map_eq_none_iff,List.find?_eq_none] at q
        exact absurd (decide_eq_true (e.trans d.symm)) (q p hp)
    · rw [if_neg d,if_neg d]
  · rw [if_neg c,ha]
    by_cases d:j=k
    · rw [if_pos d,if_pos d]
      have:getZ kvs j=none:=by
        unfold getZ
        rw [Option.map_eq_none_iff,List.find?_eq_none]
        intro p hp e
        exact c (List.any_eq_true.mpr ⟨p,hp,decide_eq_true ((of_decide_eq_true e).trans d)⟩)
      rw [this]
    · rw [if_neg d,if_neg d]
      cases getZ kvs j <;> rfl
abbrev Tk:=List (Int×Int)
def takeL (rc:Int→Tk→List Int→Option (Bool×Tk×List Int)) (x:Int):List Int→Tk→List Int→Option (Bool×Tk×List Int)
  | [],T,A=>some (false,T,A)
  | t::ts,T,A=>if t∈A then takeL rc x ts T A else match getZ T t with
    | none=>some (true,putZ T t x,A++[t])
    | some u=>match rc u T (A++[t]) with
      | some (true,T1,A1)=>some (true,putZ T1 t x,A1)
      | some (false,T1,A1)=>takeL rc x ts T1 A1
      | none=>none
def takeO (off:Int→List Int):Nat→Int→Tk→List Int→Option (Bool×Tk×List Int)
  | 0,_,_,_=>none
  | n+1,x,T,A=>takeL (takeO off n) x (off x) T A
structure Pre (T:Tk) (A:List Int) (x:Int):Prop where
  inj:∀ s t u,s∉A→t∉A→getZ T s=some u→getZ T t=some u→s=t
  new:∀ t,t∉A→getZ T t≠some x
structure Won (off:Int→List Int) (T:Tk) (A:List Int) (x:Int) (T':Tk):Prop where
  same:∀ t∈A,getZ T' t=getZ T t
  inj:∀ s t u,s∉A→t∉A→getZ T' s=some u→getZ T' t=some u→s=t
  has:∃ t,t∉A∧getZ T' t=some x
  rng:∀ u t,t∉A→getZ T' t=some u→u=x∨∃ s,s∉A∧getZ T s=some u
  rng':∀ u s,s∉A→getZ T s=some u→∃ t,t∉A∧getZ T' t=some u
  edge:∀ t u,getZ T' t=some u→getZ T t=some u∨t∈off u
  dom:∀ t,getZ T t≠none→getZ T' t≠none
structure Post (off:Int→List Int) (V:List Int) (ts:List Int) (T:Tk) (A:List Int) (x:Int) (b:Bool) (T':Tk) (A':List Int):Prop where
  sub:∀ t∈A,t∈A'
  nd:A'.Nodup
  inV:∀ t∈A',t∈V
  lost:b=false→T'=T∧(∀ t∈ts,t∈A')∧∀ t∈A',t∉A→∃ u,getZ T t=some u∧∀ s∈off u,s∈A'
  won:b=true→Won off T A x T'
theorem Pre.more {T:Tk} {A B:List Int} {x:Int} (h:Pre T A x) (s:∀ t∈A,t∈B):Pre T B x:=⟨fun a b u ha hb=>h.inj a b u (fun z=>ha (s a z)) fun z=>hb (s b z),fun t ht=>h.new t fun z=>ht (s t z)⟩
theorem Won.less {off:Int→List Int} {T T':Tk} {A B:List Int} {x:Int} (p:Pre T A x) (s:∀ t∈A,t∈B) (w:Won off T B x T'):Won off T A x T':=by
  refine ⟨fun t ht=>w.same t (s t ht),?_,?_,?_,?_,w.edge,w.dom⟩
  · intro a b u ha hb ea eb
    by_cases ca:a∈B
    · rw [w.same a ca] at ea
      by_cases cb:b∈B
      · rw [w.same b cb] at eb
        exact p.inj a b u ha hb ea eb
      · rcases w.rng u b cb eb with q | ⟨r,hr,q⟩
        · rw [q] at ea
          exact absurd ea (p.new a ha)
        · have:=p.inj a r u ha (fun z=>hr (s r z)) ea q
          rw [this] at ca
          exact absurd ca hr
    · by_cases cb:b∈B
      · rw [w.same b cb] at eb
        rcases w.rng u a ca ea with q | ⟨r,hr,q⟩
        · rw [q] at eb
          exact absurd eb (p.new b hb)
        · have:=p.inj b r u hb (fun z=>hr (s r z)) eb q
          rw [this] at cb
          exact absurd cb hr
      · exact w.inj a b u ca cb ea eb
  · obtain ⟨t,ht,e⟩:=w.has
    exact ⟨t,fun z=>ht (s t z),e⟩
  · intro u t ht e
    by_cases c:t∈B
    · rw [w.same t c] at e
      exact .inr ⟨t,ht,e⟩
    · rcases w.rng u t c e with q | ⟨r,hr,q⟩
      · exact .inl q
      · exact .inr ⟨r,fun z=>hr (s r z),q⟩
  · intro u t ht e
    by_cases c:t∈B
    · exact ⟨t,ht,by rw [w.same t c]; exact e⟩
    · obtain ⟨r,hr,q⟩:=w.rng' u t c e
      exact ⟨r,fun z=>hr (s r z),q⟩
theorem nd_len:∀ {A V:List Int},A.Nodup→(∀ t∈A,t∈V)→A.length≤V.length
  | [],V,_,_=>Nat.zero_le _
  | a::A,V,h,s=>by
    obtain ⟨h1,h2⟩:=List.nodup_cons.mp h
    have ha:=s a List.mem_cons_self
    have ih:=nd_len (V:=V.erase a) h2 fun t ht=>(List.mem_erase_of_ne (fun z:t=a=>h1 (z ▸ ht))).mpr (s t (List.mem_cons_of_mem _ ht))
    have:=List.length_erase_of_mem ha
    have:0<V.length:=List.length_pos_of_mem ha
    rw [List.length_cons]
    omega
theorem takeL_ok {off:Int→List Int} {V:List Int} (hoff:∀ x t,t∈off x→t∈V) {rc:Int→Tk→List Int→Option (Bool×Tk×List Int)} {n:Nat}
    (hrc:∀ (x:Int) (T:Tk) (A:List Int),A.Nodup→(∀ t∈A,t∈V)→V.length<n+A.length→Pre T A x→∃ b T' A',rc x T A=some (b,T',A')∧Post off V (off x) T A x b T' A') (x:Int) :
    ∀ (ts:List Int) (T:Tk) (A:List Int),(∀ t∈ts,t∈off x)→A.Nodup→(∀ t∈A,t∈V)→V.length<n+1+A.length→Pre T A x→∃ b T' A',takeL rc x ts T A=some (b,T',A')∧Post off V ts T A x b T' A'
  | [],T,A,_,nd,iv,_,_=>⟨false,T,A,rfl,fun t h=>h,nd,iv,fun _=>⟨rfl,fun t h=>(by cases h),fun t h1 h2=>absurd h1 h2⟩,fun h=>by cases h⟩
  | t::ts,T,A,hts,nd,iv,hf,p=>by
    have hts':∀ s∈ts,s∈off x:=fun s hs=>hts s (List.mem_cons_of_mem _ hs)
    by_cases c:t∈A
    · obtain ⟨b,T',A',e,q⟩:=takeL_ok hoff hrc x ts T A hts' nd iv hf p
      refine ⟨b,T',A',?_,q.sub,q.nd,q.inV,fun h=>?_,q.won⟩
      · unfold takeL
        rw [if_pos c]
        exact e
      · obtain ⟨h1,h2,h3⟩:=q.lost h
        exact ⟨h1,fun s hs=>(List.mem_cons.mp hs).elim (fun z=>z ▸ q.sub t c) (h2 s),h3⟩
    · have tV:t∈V:=hoff x t (hts t List.mem_cons_self)
      have nd1:(A++[t]).Nodup:=List.nodup_append.mpr ⟨nd,by simp,fun a ha b hb=>by
        rw [List.mem_singleton.mp hb]
        exact fun z=>c (z ▸ ha)⟩
      have iv1:∀ s∈A++[t],s∈V:=fun s hs=>(List.mem_append.mp hs).elim (iv s) fun z=>by rw [List.mem_singleton.mp z]; exact tV
      have sb1:∀ s∈A,s∈A++[t]:=fun s hs=>List.mem_append_left _ hs
      have tin:t∈A++[t]:=List.mem_append_right _ List.mem_cons_self
      cases g:getZ T t with
      | none =>
        refine ⟨true,putZ T t x,A++[t],?_,sb1,nd1,iv1,(fun h=>by cases h),fun _=>?_⟩
        · unfold takeL
          rw [if_neg c,g]
        · have gp:∀ s,getZ (putZ T t x) s=if s=t then some x else getZ T s:=fun s=>getZ_put T t x s
          refine ⟨fun s hs=>?_,fun a b u ha hb ea eb=>?_,⟨t,c,?_⟩,fun u s hs e=>?_,fun u s hs e=>⟨s,hs,?_⟩,fun s u e=>?_,fun s hs=>?_⟩
          · rw [gp,if_neg (fun z:s=t=>c (z ▸ hs))]
          · rw [gp] at ea eb
            split at ea <;> split at eb
            · rename_i z1 z2; rw [z1,z2]
            · cases ea; exact absurd eb (p.new b hb)
            · cases eb; exact absurd ea (p.new a ha)
            · exact p.inj a b u ha hb ea eb
          · rw [gp,if_pos rfl]
          · rw [gp] at e
            split at e
            · cases e; exact .inl rfl
            · exact .inr ⟨s,hs,e⟩
          · rw [gp,if_neg (fun z=>by rw [z,g] at e; cases e)]
            exact e
          · rw [gp] at e
            split at e
            · rename_i z
              cases e
              rw [z]
              exact .inr (hts t List.mem_cons_self)
            · exact .inl e
          · rw [gp]
            split
            · simp
            · exact hs
      | some u =>
        have p1:Pre T (A++[t]) u:=⟨(p.more sb1).inj,fun s hs e=>hs (by rw [p.inj s t u (fun z=>hs (sb1 s z)) c e g]; exact tin)⟩
        obtain ⟨b,T1,A1,e,q⟩:=hrc u T (A++[t]) nd1 iv1 (by rw [List.length_append,List.length_singleton]; omega) p1
        cases b with
        | true =>
          have w:=q.won rfl
          refine ⟨true,putZ T1 t x,A1,?_,fun s hs=>q.sub s (sb1 s hs),q.nd,q.inV,(fun h=>by cases h),fun _=>?_⟩
          · unfold takeL
            rw [if_neg c,g]
            dsimp only
            rw [e]
          · have gp:∀ s,getZ (putZ T1 t x) s=if s=t then some x else getZ T1 s:=fun s=>getZ_put T1 t x s
            have out:∀ s,s∉A→s≠t→s∉A++[t]:=fun s h1 h2 z=>(List.mem_append.mp z).elim h1 fun z=>h2 (List.mem_singleton.mp z)
            have notx:∀ s,s∉A→s≠t→getZ T1 s≠some x:=fun s h1 h2 z=>by
              rcases w.rng x s (out s h1 h2) z with r | ⟨r,hr,r2⟩
              · rw [← r] at g
                exact p.new t c g
              · exact p.new r (fun z=>hr (sb1 r z)) r2
            refine ⟨fun s hs=>?_,fun a b v ha hb ea eb=>?_,⟨t,c,by rw [gp,if_pos rfl]⟩,fun v s hs ev=>?_,fun v s hs ev=>?_,fun s v ev=>?_,fun s hs=>?_⟩
            · rw [gp,if_neg (fun z:s=t=>c (z ▸ hs)),w.same s (sb1 s hs)]
            · rw [gp] at ea eb
              split at ea <;> split at eb
              · rename_i z1 z2; rw [z1,z2]
              · rename_i z1 z2; cases ea; exact absurd eb (notx b hb z2)
              · rename_i z1 z2; cases eb; exact absurd ea (notx a ha z1)
              · rename_i z1 z2; exact w.inj a b v (out a ha z1) (out b hb z2) ea eb
            · rw [gp] at ev
              split at ev
              · cases ev; exact .inl rfl
              · rename_i z
                rcases w.rng v s (out s hs z) ev with r | ⟨r,hr,r2⟩
                · exact .inr ⟨t,c,by rw [r]; exact g⟩
                · exact .inr ⟨r,fun z=>hr (sb1 r z),r2⟩
            · by_cases z:s=t
              · rw [z,g] at ev
                cases ev
                obtain ⟨r,hr,r2⟩:=w.has
                exact ⟨r,fun z=>hr (sb1 r z),by rw [gp,if_neg (fun z:r=t=>hr (z ▸ tin))]; exact r2⟩
              · obtain ⟨r,hr,r2⟩:=w.rng' v s (out s hs z) ev
                exact ⟨r,fun z=>hr (sb1 r z),by rw [gp,if_neg (fun z:r=t=>hr (z ▸ tin))]; exact r2⟩
            · rw [gp] at ev
              split at ev
              · rename_i z
                cases ev
                rw [z]
                exact .inr (hts t List.mem_cons_self)
              · exact w.edge s v ev
            · rw [gp]
              split
              · simp
              · exact w.dom s hs
        | false =>
          obtain ⟨h1,h2,h3⟩:=q.lost rfl
          subst h1
          have sA:∀ s∈A,s∈A1:=fun s hs=>q.sub s (sb1 s hs)
          have hl:A.length≤A1.length:=nd_len nd sA
          obtain ⟨b,T',A',e2,q2⟩:=takeL_ok hoff hrc x ts T1 A1 hts' q.nd q.inV (by omega) (p.more sA)
          refine ⟨b,T',A',?_,fun s hs=>q2.sub s (sA s hs),q2.nd,q2.inV,fun h=>?_,fun h=>(q2.won h).less p sA⟩
          · conv=>lhs; unfold takeL
            rw [if_neg c,g]
            dsimp only
            rw [e]
            exact e2
          · obtain ⟨k1,k2,k3⟩:=q2.lost h
            refine ⟨k1,fun s hs=>(List.mem_cons.mp hs).elim (fun z=>by rw [z]; exact q2.sub t (q.sub t tin)) (k2 s),fun s hs hn=>?_⟩
            by_cases z:s∈A1
            · by_cases z2:s∈A++[t]
              · have:s=t:=(List.mem_append.mp z2).elim (fun z=>absurd z hn) fun z=>List.mem_singleton.mp z
                subst this
                exact ⟨u,g,fun r hr=>q2.sub r (h2 r hr)⟩
              · obtain ⟨v,hv,hv2⟩:=h3 s z z2
                exact ⟨v,hv,fun r hr=>q2.sub r (hv2 r hr)⟩
            · exact k3 s hs z
theorem takeO_ok {off:Int→List Int} {V:List Int} (hoff:∀ x t,t∈off x→t∈V):∀ (n:Nat) (x:Int) (T:Tk) (A:List Int),A.Nodup→(∀ t∈A,t∈V)→V.length<n+A.length→Pre T A x→∃ b T' A',takeO off n x T A=some (b,T',A')∧Post off V (off x) T A x b T' A'
  | 0,x,T,A,nd,iv,hf,p=>by
    have:=nd_len nd iv
    omega
  | n+1,x,T,A,nd,iv,hf,p=>takeL_ok hoff (takeO_ok hoff n) x (off x) T A (fun t h=>h) nd iv hf p
def smI (l:List Int) (f:Int→Int):Int:=(l.map f).sum
theorem smI_nil (f:Int→Int):smI [] f=0:=rfl
theorem smI_cons (a:Int) (l:List Int) (f:Int→Int):smI (a::l) f=f a+smI l f:=by unfold smI; rw [List.map_cons,List.sum_cons]
theorem smI_erase (f:Int→Int) {a:Int}:∀ {V:List Int},a∈V→smI V f=f a+smI (V.erase a) f
  | [],h=>by cases h
  | b::V,h=>by
    by_cases c:b=a
    · subst c
      rw [List.erase_cons_head,smI_cons]
    · rw [List.erase_cons_tail (by simpa using c),smI_cons,smI_cons,smI_erase f ((List.mem_cons.mp h).resolve_left fun z=>c z.symm)]
      omega
theorem smI_nonneg {f:Int→Int}:∀ {V:List Int},(∀ t∈V,0≤f t)→0≤smI V f
  | [],_=>Int.le_refl _
  | a::V,h=>by
    rw [smI_cons]
    have:=h a List.mem_cons_self
    have:=smI_nonneg (V:=V) fun t ht=>h t (List.mem_cons_of_mem _ ht)
    omega
theorem smI_sub {f:Int→Int}:∀ {A V:List Int},A.Nodup→(∀ t∈A,t∈V)→(∀ t∈V,0≤f t)→smI A f≤smI V f
  | [],V,_,_,h=>smI_nonneg h
  | a::A,V,nd,s,h=>by
    obtain ⟨h1,h2⟩:=List.nodup_cons.mp nd
    rw [smI_cons,smI_erase f (s a List.mem_cons_self)]
    have:=smI_sub (V:=V.erase a) h2 (fun t ht=>(List.mem_erase_of_ne (fun z:t=a=>h1 (z ▸ ht))).mpr (s t (List.mem_cons_of_mem _ ht))) fun t ht=>h t (List.mem_of_mem_erase ht)
    omega
theorem smI_zero {f:Int→Int} {p:Int→Bool}:∀ {V:List Int},(∀ t∈V,p t=false→f t=0)→smI V f=smI (V.filter p) f
  | [],_=>rfl
  | a::V,h=>by
    have ih:=smI_zero (V:=V) fun t ht=>h t (List.mem_cons_of_mem _ ht)
    rw [smI_cons,ih,List.filter_cons]
    split
    · rw [smI_cons]
    · rename_i c
      rw [h a List.mem_cons_self (Bool.eq_false_iff.mpr c)]
      omega
theorem smI_add (f g:Int→Int):∀ l:List Int,smI l (fun t=>f t+g t)=smI l f+smI l g
  | []=>rfl
  | a::l=>by rw [smI_cons,smI_cons,smI_cons,smI_add f g l]; omega
theorem smI_const (c:Int):∀ l:List Int,smI l (fun _=>c)=l.length*c
  | []=>by show (0:Int)=((0:Nat):Int)*c; omega
  | a::l=>by
    rw [smI_cons,smI_const c l,List.length_cons,Int.natCast_add,Int.add_mul]
    omega
theorem smI_swap (w:Int→Int→Int) (A:List Int):∀ U:List Int,smI U (fun u=>smI A fun t=>w u t)=smI A (fun t=>smI U fun u=>w u t)
  | []=>by
    show 0=smI A fun t=>0
    rw [smI_const,Int.mul_zero]
  | a::U=>by
    rw [smI_cons,smI_swap w A U,← smI_add]
    rfl
theorem smI_congr {f g:Int→Int}:∀ {l:List Int},(∀ t∈l,f t=g t)→smI l f=smI l g
  | [],_=>rfl
  | a::l,h=>by rw [smI_cons,smI_cons,h a List.mem_cons_self,smI_congr fun t ht=>h t (List.mem_cons_of_mem _ ht)]
theorem smI_le {f g:Int→Int}:∀ {l:List Int},(∀ t∈l,f t≤g t)→smI l f≤smI l g
  | [],_=>Int.le_refl _
  | a::l,h=>by
    rw [smI_cons,smI_cons]
    have:=h a List.mem_cons_self
    have:=smI_le (l:=l) fun t ht=>h t (List.mem_cons_of_mem _ ht)
    omega
structure Even (off:Int→List Int) (X V:List Int) (w:Int→Int→Int) (R:Int):Prop where
  pos:0<R
  ndX:X.Nodup
  ndV:V.Nodup
  w0:∀ u t,0≤w u t
  sup:∀ u t,u∈X→t∈V→0<w u t→t∈off u
  row:∀ u∈X,smI V (fun t=>w u t)=R
  col:∀ t∈V,smI X (fun u=>w u t)=R
theorem never_lost {off:Int→List Int} {X V:List Int} {w:Int→Int→Int} {R:Int} (e:Even off X V w R) {T:Tk} {A:List Int} {x:Int} (hx:x∈X) (hT:∀ t u,getZ T t=some u→u∈X) (p:Pre T [] x) (nd:A.Nodup) (iv:∀ t∈A,t∈V)
    (hox:∀ t∈off x,t∈A) (hA:∀ t∈A,∃ u,getZ T t=some u∧∀ s∈off u,s∈A):False:=by
  let U:List Int:=x::A.map fun t=>(getZ T t).getD 0
  have own:∀ t∈A,getZ T t=some ((getZ T t).getD 0):=fun t ht=>by
    obtain ⟨u,hu,_⟩:=hA t ht
    rw [hu]; rfl
  have ndU:U.Nodup:=by
    refine List.nodup_cons.mpr ⟨fun z=>?_,?_⟩
    · obtain ⟨t,ht,e1⟩:=List.mem_map.mp z
      have:=own t ht
      rw [e1] at this
      exact p.new t (by simp) this
    · have:∀ A:List Int,A.Nodup→(∀ t∈A,getZ T t=some ((getZ T t).getD 0))→(A.map fun t=>(getZ T t).getD 0).Nodup:=by
        intro A
        induction A with
        | nil=>intro _ _; exact List.nodup_nil
        | cons a A ih =>
          intro nd own
          obtain ⟨h1,h2⟩:=List.nodup_cons.mp nd
          refine List.nodup_cons.mpr ⟨fun z=>?_,ih h2 fun t ht=>own t (List.mem_cons_of_mem _ ht)⟩
          obtain ⟨t,ht,e1⟩:=List.mem_map.mp z
          have o1:=own a List.mem_cons_self
          have o2:=own t (List.mem_cons_of_mem _ ht)
          rw [e1] at o2
          have:=p.inj t a _ (by simp) (by simp) o2 o1
          exact h1 (this ▸ ht)
      exact this A nd own
  have UX:∀ u∈U,u∈X:=fun u hu=>by
    rcases List.mem_cons.mp hu with z | z
    · rw [z]; exact hx
    · obtain ⟨t,ht,e1⟩:=List.mem_map.mp z
      have:=own t ht
      rw [e1] at this
      exact hT t u this
  have offU:∀ u∈U,∀ t∈off u,t∈A:=fun u hu=>by
    rcases List.mem_cons.mp hu with z | z
    · rw [z]; exact hox
    · obtain ⟨t,ht,e1⟩:=List.mem_map.mp z
      obtain ⟨v,hv,hv2⟩:=hA t ht
      rw [hv] at e1
      have:v=u:=e1
      rw [← this]
      exact hv2
  have rowA:∀ u∈U,R≤smI A fun t=>w u t:=fun u hu=>by
    rw [← e.row u (UX u hu),smI_zero (p:=fun t=>decide (t∈A))]
    · refine smI_sub (e.ndV.filter _) (fun t ht=>?_) fun t _=>e.w0 u t
      exact of_decide_eq_true (List.mem_filter.mp ht).2
    · intro t ht c
      have c:=of_decide_eq_false c
      have h0:=e.w0 u t
      by_cases z:0<w u t
      · exact absurd (offU u hu t (e.sup u t (UX u hu) ht z)) c
      · omega
  have h1:smI U (fun _=>R)≤smI U fun u=>smI A fun t=>w u t:=smI_le rowA
  rw [smI_swap,smI_const] at h1
  have h2:smI A (fun t=>smI U fun u=>w u t)≤smI A fun _=>R:=smI_le fun t ht=>by
    rw [← e.col t (iv t ht)]
    exact smI_sub ndU UX fun u _=>e.w0 u t
  rw [smI_const] at h2
  have hl:U.length=A.length+1:=by show (x::A.map _).length=_; rw [List.length_cons,List.length_map]
  rw [hl,Int.natCast_add,Int.add_mul] at h1
  have:=e.pos
  omega
def takeAll (off:Int→List Int) (n:Nat):List Int→Tk→Option Tk
  | [],T=>some T
  | x::xs,T=>match takeO off n x T [] with
    | some (_,T',_)=>takeAll off n xs T'
    | none=>none
structure Fair (off:Int→List Int) (X:List Int) (D:Int→Prop) (T:Tk):Prop where
  inj:∀ s t u,getZ T s=some u→getZ T t=some u→s=t
  edge:∀ t u,getZ T t=some u→t∈off u
  own:∀ t u,getZ T t=some u→D u
  all:∀ u,D u→∃ t,getZ T t=some u
theorem takeAll_ok {off:Int→List Int} {X V:List Int} {w:Int→Int→Int} {R:Int} (e:Even off X V w R) (hoff:∀ x t,t∈off x→t∈V) {n:Nat} (hn:V.length<n):∀ (xs:List Int) (D:Int→Prop) (T:Tk),(∀ x∈xs,x∈X∧¬ D x)→xs.Nodup→(∀ u,D u→u∈X)→Fair off X D T→∃ T',takeAll off n xs T=some T'∧Fair off X (fun u=>D u∨u∈xs) T'
  | [],D,T,_,_,_,f=>⟨T,rfl,f.inj,f.edge,fun t u h=>.inl (f.own t u h),fun u h=>f.all u (h.resolve_right (by simp))⟩
  | x::xs,D,T,hx,nd,hD,f=>by
    obtain ⟨h1,h2⟩:=List.nodup_cons.mp nd
    obtain ⟨xX,xD⟩:=hx x List.mem_cons_self
    have p:Pre T [] x:=⟨fun s t u _ _=>f.inj s t u,fun t _ z=>xD (f.own t x z)⟩
    obtain ⟨b,T',A',et,q⟩:=takeO_ok hoff n x T [] List.nodup_nil (by simp) (by simpa using hn) p
    cases b with
    | false =>
      obtain ⟨k1,k2,k3⟩:=q.lost rfl
      exact (never_lost e xX (fun t u h=>hD u (f.own t u h)) p q.nd q.inV k2 fun t ht=>k3 t ht (by simp)).elim
    | true =>
      have W:=q.won rfl
      have f':Fair off X (fun u=>D u∨u=x) T':=by
        refine ⟨fun s t u=>W.inj s t u (by simp) (by simp),fun t u h=>(W.edge t u h).elim (f.edge t u) id,fun t u h=>?_,fun u h=>?_⟩
        · rcases W.rng u t (by simp) h with z | ⟨s,_,z⟩
          · exact .inr z
          · exact .inl (f.own s u z)
        · rcases h with h | h
          · obtain ⟨s,hs⟩:=f.all u h
            obtain ⟨t,_,ht⟩:=W.rng' u s (by simp) hs
            exact ⟨t,ht⟩
          · obtain ⟨t,_,ht⟩:=W.has
            exact ⟨t,by rw [h]; exact ht⟩
      obtain ⟨T2,e2,f2⟩:=takeAll_ok e hoff hn xs (fun u=>D u∨u=x) T' (fun y hy=>⟨(hx y (List.mem_cons_of_mem _ hy)).1,fun z=>z.elim (hx y (List.mem_cons_of_mem _ hy)).2 fun z=>h1 (z ▸ hy)⟩) h2 (fun u h=>h.elim (hD u) fun z=>z ▸ xX) f'
      refine ⟨T2,by unfold takeAll; rw [et]; exact e2,f2.inj,f2.edge,fun t u h=>?_,fun u h=>f2.all u ?_⟩
      · rcases f2.own t u h with (z | z) | z
        · exact .inl z
        · exact .inr (z ▸ List.mem_cons_self)
        · exact .inr (List.mem_cons_of_mem _ z)
      · rcases h with z | z
        · exact .inl (.inl z)
        · rcases List.mem_cons.mp z with z | z
          · exact .inl (.inr z)
          · exact .inr z
def rgI (n:Nat):List Int:=(List.range n).map Int.ofNat
theorem rgI_mem {n:Nat} {x:Int}:x∈rgI n↔0≤x∧x<n:=by
  unfold rgI
  rw [List.mem_map]
  constructor
  · rintro ⟨k,hk,rfl⟩
    have:=List.mem_range.mp hk
    exact ⟨Int.natCast_nonneg k,by show (k:Int)<n; omega⟩
  · rintro ⟨h0,h1⟩
    exact ⟨x.toNat,List.mem_range.mpr (by omega),by show ((x.toNat:Nat):Int)=x; omega⟩
theorem rgI_nodup (n:Nat):(rgI n).Nodup:=by
  unfold rgI
  refine List.Pairwise.map _ (fun a b h z=>h (by cases z; rfl)) List.nodup_range
theorem rgI_len (n:Nat):(rgI n).length=n:=by unfold rgI; rw [List.length_map,List.length_range]
theorem rgI_app (a b:Nat):rgI (a+b)=rgI a++(rgI b).map fun x=>(a:Int)+x:=by
  unfold rgI
  rw [List.range_add,List.map_append,List.map_map,List.map_map]
  rfl
theorem smI_app (f:Int→Int):∀ a b:List Int,smI (a++b) f=smI a f+smI b f
  | [],b=>by rw [List.nil_append,smI_nil]; omega
  | x::a,b=>by rw [List.cons_append,smI_cons,smI_cons,smI_app f a b]; omega
theorem smI_map (f:Int→Int) (g:Int→Int) (l:List Int):smI (l.map g) f=smI l fun x=>f (g x):=by
  unfold smI
  rw [List.map_map]
  rfl
theorem smI_one {c u:Int}:∀ {l:List Int},l.Nodup→u∈l→smI l (fun i=>if i=u then c else 0)=c
  | [],_,h=>by cases h
  | a::l,nd,h=>by
    obtain ⟨h1,h2⟩:=List.nodup_cons.mp nd
    rw [smI_cons]
    by_cases e:a=u
    · subst e
      rw [if_pos rfl]
      have:smI l (fun i=>if i=a then c else 0)=smI l fun _=>0:=smI_congr fun t ht=>if_neg fun z:t=a=>h1 (z ▸ ht)
      rw [this,smI_const,Int.mul_zero,Int.add_zero]
    · rw [if_neg e,smI_one h2 ((List.mem_cons.mp h).resolve_left fun z=>e z.symm),Int.zero_add]
section
variable (h b:Nat) (l:Int→Int→Int) (R:Int)
def rowS (i:Int):Int:=smI (rgI b) fun j=>l i j
def colS (j:Int):Int:=smI (rgI h) fun i=>l i j
def wgt (u t:Int):Int :=
  if 0≤u∧u<h then (if 0≤t∧t<b then l u t else if t=b+u then R-rowS b l u else 0)
  else if (h:Int)≤u∧u<h+b then (if (b:Int)≤t∧t<b+h then l (t-b) (u-h) else if t=u-h then R-colS h l (u-h) else 0)
  else 0
def offs (u:Int):List Int :=
  if 0≤u∧u<h then (rgI b).filter (fun t=>decide (0<l u t))++(if rowS b l u<R then [(b:Int)+u] else [])
  else if (h:Int)≤u∧u<h+b then ((rgI h).map fun i=>(b:Int)+i)++(if colS h l (u-h)<R then [u-h] else [])
  else []
structure Fits:Prop where
  pos:∀ i j,0≤l i j
  row:∀ i,i∈rgI h→rowS b l i≤R
  col:∀ j,j∈rgI b→colS h l j≤R
end
theorem offs_in {h b:Nat} {l:Int→Int→Int} {R:Int} (u t:Int) (ht:t∈offs h b l R u):t∈rgI (b+h):=by
  rw [rgI_mem]
  unfold offs at ht
  split at ht
  · rename_i c
    rcases List.mem_append.mp ht with z | z
    · have:=rgI_mem.mp (List.mem_filter.mp z).1
      omega
    · split at z
      · rw [List.mem_singleton.mp z]; omega
      · cases z
  · split at ht
    · rename_i c
      rcases List.mem_append.mp ht with z | z
      · obtain ⟨i,hi,rfl⟩:=List.mem_map.mp z
        have:=rgI_mem.mp hi
        omega
      · split at z
        · rw [List.mem_singleton.mp z]; omega
        · cases z
    · cases ht
theorem even {h b:Nat} {l:Int→Int→Int} {R:Int} (f:Fits h b l R) (hR:0<R):Even (offs h b l R) (rgI (h+b)) (rgI (b+h)) (wgt h b l R) R:=by
  refine ⟨hR,rgI_nodup _,rgI_nodup _,fun u t=>?_,fun u t hu ht hw=>?_,fun u hu=>?_,fun t ht=>?_⟩
  · unfold wgt
    split
    · rename_i c
      split
      · exact f.pos _ _
      · split
        · have:=f.row u (rgI_mem.mpr c); omega
        · exact Int.le_refl _
    · split
      · rename_i c
        split
        · exact f.pos _ _
        · split
          · have:=f.col (u-h) (rgI_mem.mpr (by omega)); omega
          · exact Int.le_refl _
      · exact Int.le_refl _
  · unfold wgt at hw
    unfold offs
    split at hw
    · rename_i c
      rw [if_pos c]
      split at hw
      · rename_i d
        exact List.mem_append_left _ (List.mem_filter.mpr ⟨rgI_mem.mpr d,decide_eq_true hw⟩)
      · split at hw
        · rename_i d
          rw [if_pos (by omega),d]
          exact List.mem_append_right _ List.mem_cons_self
        · omega
    · rename_i c
      rw [if_neg c]
      split at hw
      · rename_i c2
        rw [if_pos c2]
        split at hw
        · rename_i d
          exact List.mem_append_left _ (List.mem_map.mpr ⟨t-b,rgI_mem.mpr (by omega),by omega⟩)
        · split at hw
          · rename_i d
            rw [if_pos (by omega),d]
            exact List.mem_append_right _ List.mem_cons_self
          · omega
      · omega
  · have hu:=rgI_mem.mp hu
    rw [rgI_app,smI_app,smI_map]
    by_cases c:0≤u∧u<h
    · have e1:smI (rgI b) (fun t=>wgt h b l R u t)=rowS b l u:=smI_congr fun t ht=>by
        unfold wgt
        rw [if_pos c,if_pos (rgI_mem.mp ht)]
      have e2:smI (rgI h) (fun i=>wgt h b l R u ((b:Int)+i))=smI (rgI h) (fun i=>if i=u then R-rowS b l u else 0):=smI_congr fun i hi=>by
        have:=rgI_mem.mp hi
        unfold wgt
        rw [if_pos c,if_neg (by omega)]
        by_cases z:i=u
        · rw [if_pos z,if_pos (by omega)]
        · rw [if_neg z,if_neg (by omega)]
      rw [e1,e2,smI_one (rgI_nodup _) (rgI_mem.mpr c)]
      omega
    · have c2:(h:Int)≤u∧u<h+b:=by omega
      have e1:smI (rgI b) (fun t=>wgt h b l R u t)=smI (rgI b) (fun t=>if t=u-h then R-colS h l (u-h) else 0):=smI_congr fun t ht=>by
        have:=rgI_mem.mp ht
        unfold wgt
        rw [if_neg c,if_pos c2,if_neg (by omega)]
      have e2:smI (rgI h) (fun i=>wgt h b l R u ((b:Int)+i))=colS h l (u-h):=smI_congr fun i hi=>by
        have:=rgI_mem.mp hi
        unfold wgt
        rw [if_neg c,if_pos c2,if_pos (by omega),show (b:Int)+i-b=i by omega]
      rw [e1,e2,smI_one (rgI_nodup _) (rgI_mem.mpr (by omega))]
      omega
  · have ht:=rgI_mem.mp ht
    rw [rgI_app,smI_app,smI_map]
    by_cases c:0≤t∧t<b
    · have e1:smI (rgI h) (fun u=>wgt h b l R u t)=colS h l t:=smI_congr fun u hu=>by
        unfold wgt
        rw [if_pos (rgI_mem.mp hu),if_pos c]
      have e2:smI (rgI b) (fun j=>wgt h b l R ((h:Int)+j) t)=smI (rgI b) (fun j=>if j=t then R-colS h l t else 0):=smI_congr fun j hj=>by
        have:=rgI_mem.mp hj
        unfold wgt
        rw [if_neg (by omega),if_pos (by omega),if_neg (by omega),show (h:Int)+j-h=j by omega]
        by_cases z:j=t
        · rw [if_pos z,if_pos z.symm,z]
        · rw [if_neg z,if_neg (fun w=>z w.symm)]
      rw [e1,e2,smI_one (rgI_nodup _) (rgI_mem.mpr c)]
      omega
    · have e1:smI (rgI h) (fun u=>wgt h b l R u t)=smI (rgI h) (fun u=>if u=t-b then R-rowS b l (t-b) else 0):=smI_congr fun u hu=>by
        unfold wgt
        rw [if_pos (rgI_mem.mp hu),if_neg c]
        by_cases z:u=t-b
        · rw [if_pos z,if_pos (by omega),z]
        · rw [if_neg z,if_neg (by omega)]
      have e2:smI (rgI b) (fun j=>wgt h b l R ((h:Int)+j) t)=rowS b l (t-b):=smI_congr fun j hj=>by
        have:=rgI_mem.mp hj
        unfold wgt
        rw [if_neg (by omega),if_pos (by omega),if_pos (by omega),show (h:Int)+j-h=j by omega]
      rw [e1,e2,smI_one (rgI_nodup _) (rgI_mem.mpr (by omega))]
      omega
def akv (t:Int):Key×V:=(.inl t,.bl true)
def tkO (T:Tk):HO:=.dK (T.map dkv)
def akO (A:List Int):HO:=.dK (A.map akv)
def hp2 (H:Hp) (p q:Addr) (T:Tk) (A:List Int):Hp:=upd (upd H p (tkO T)) q (akO A)
theorem upd_self {H:Hp} {a:Addr} {o:HO} (e:H a=some o):upd H a o=H:=by
  funext x
  unfold upd
  split
  · rename_i z; rw [z]; exact e.symm
  · rfl
theorem upd_upd {H:Hp} {a:Addr} {o o':HO}:upd (upd H a o) a o'=upd H a o':=by
  funext x
  unfold upd
  split <;> rfl
theorem upd_comm {H:Hp} {a b:Addr} {o o':HO} (h:a≠b):upd (upd H a o) b o'=upd (upd H b o') a o:=by
  funext x
  unfold upd
  split
  · rename_i z
    rw [if_neg (fun w=>h (w.symm.trans z))]
  · rfl
theorem hp2_self {H:Hp} {p q:Addr} {T:Tk} {A:List Int} (e1:H p=some (tkO T)) (e2:H q=some (akO A)):hp2 H p q T A=H:=by
  unfold hp2
  rw [upd_self e1,upd_self e2]
theorem hp2_p {H:Hp} {p q:Addr} {T:Tk} {A:List Int} (h:p≠q):hp2 H p q T A p=some (tkO T):=by
  unfold hp2
  rw [upd_ne h]
  exact upd_same
theorem hp2_q {H:Hp} {p q:Addr} {T:Tk} {A:List Int}:hp2 H p q T A q=some (akO A):=upd_same
theorem hp2_o {H:Hp} {p q a:Addr} {T:Tk} {A:List Int} (h1:a≠p) (h2:a≠q):hp2 H p q T A a=H a:=by
  unfold hp2
  rw [upd_ne h2,upd_ne h1]
theorem hp2_putA {H:Hp} {p q:Addr} {T:Tk} {A A':List Int}:upd (hp2 H p q T A) q (akO A')=hp2 H p q T A':=upd_upd
theorem hp2_putT {H:Hp} {p q:Addr} {T T':Tk} {A:List Int} (h:p≠q):upd (hp2 H p q T A) p (tkO T')=hp2 H p q T' A:=by
  unfold hp2
  rw [upd_comm (Ne.symm h),upd_upd]
theorem hp2_hp2 {H:Hp} {p q:Addr} {T T':Tk} {A A':List Int} (h:p≠q):hp2 (hp2 H p q T A) p q T' A'=hp2 H p q T' A':=by
  show upd (upd (hp2 H p q T A) p (tkO T')) q (akO A')=_
  rw [hp2_putT h]
  exact hp2_putA
theorem takeO_fact {off:Int→List Int}:∀ (n:Nat) (x:Int) (T:Tk) (A:List Int) (b:Bool) (T':Tk) (A':List Int),takeO off n x T A=some (b,T',A')→(b=false→T'=T)∧T'.length≤T.length+n
  | 0,x,T,A,b,T',A',e=>by cases e
  | n+1,x,T,A,b,T',A',e=>by
    have key:∀ (ts:List Int) (T:Tk) (A:List Int),takeL (takeO off n) x ts T A=some (b,T',A')→(b=false→T'=T)∧T'.length≤T.length+(n+1):=by
      intro ts
      induction ts with
      | nil=>intro T A e; cases e; exact ⟨fun _=>rfl,by omega⟩
      | cons t ts ih =>
        intro T A e
        unfold takeL at e
        split at e
        · exact ih T A e
        · split at e
          · cases e
            exact ⟨fun z=>(by cases z),by have:=putZ_len T t x; omega⟩
          · rename_i u _
            split at e
            · rename_i T1 A1 e1
              cases e
              have:=(takeO_fact n u T _ _ _ _ e1).2
              exact ⟨fun z=>(by cases z),by have:=putZ_len T1 t x; omega⟩
            · rename_i T1 A1 e1
              have:=(takeO_fact n u T _ _ _ _ e1).1 rfl
              subst this
              exact ih _ _ e
            · cases e
    exact key (off x) T A e
def OffAt (H:Hp) (po:Addr) (off:Int→List Int) (m:Nat):Prop:=∃ as:List Addr,as.length=m∧m≤1000∧Rd H po (.lst (as.map V.ref))∧∀ (x:Nat) (a:Addr),as[x]?=some a→Rd H a (.lst ((off (x:Int)).map V.int))∧(off (x:Int)).length≤1000
def spTk (n:Nat):Sp:=fun vs H Q _=>∃ (po p q:Addr) (off:Int→List Int) (m:Nat) (W:List Int) (x:Int) (T:Tk) (A:List Int) (b:Bool) (T':Tk) (A':List Int),
  vs=[.ref po,.int x,.ref p,.ref q]∧OffAt H po off m∧H p=some (tkO T)∧H q=some (akO A)∧p≠q∧0≤x∧x<m∧(∀ t u,getZ T t=some u→0≤u∧u<m)∧T.length+n≤1000∧A.Nodup∧(∀ t∈A,t∈W)∧(∀ x t,t∈off x→t∈W)∧W.length≤1000 ∧
  takeO off n x T A=some (b,T',A')∧Q (.bl b) (hp2 H p q T' A')
def unInts:List D→Option (List (List Int))
  | []=>some []
  | .lst ds::r=>(match asInts ds,unInts r with
    | some x,some y=>some (x::y)
    | _,_=>none)
  | _=>none
theorem unInts_map:∀ (R:List (List Int)),unInts (R.map fun r=>D.lst (r.map D.int))=some R
  | []=>rfl
  | r::R=>by
    rw [List.map_cons]
    unfold unInts
    rw [asInts_map,unInts_map R]
theorem unInts_some:∀ {ds:List D} {R:List (List Int)},unInts ds=some R→ds=R.map fun r=>D.lst (r.map D.int)
  | [],R,h=>by cases h; rfl
  | d::ds,R,h=>by
    unfold unInts at h
    split at h
    · rename_i e; cases e
    · rename_i a b c e
      cases e
      split at h
      · rename_i x y e1 e2
        cases h
        rw [List.map_cons,← asInts_some e1,← unInts_some e2]
      · cases h
    · cases h
def offOf (R:List (List Int)) (x:Int):List Int:=if 0≤x then R.getD x.toNat [] else []
theorem offOf_mem {R:List (List Int)} {x t:Int} (h:t∈offOf R x):∃ r∈R,t∈r:=by
  unfold offOf at h
  split at h
  · rw [List.getD_eq_getElem?_getD] at h
    cases e:R[x.toNat]? with
    | none=>rw [e] at h; cases h
    | some r=>rw [e] at h; exact ⟨r,List.mem_of_getElem? e,h⟩
  · cases h
def OffOk (R:List (List Int)):Prop:=R.length≤50∧(∀ r∈R,r.length≤1000)∧∃ W:List Int,W.length≤1000∧∀ r∈R,∀ t∈r,t∈W
open Classical in
@[irreducible] noncomputable def F_taker_of_each (ds:List D):Option D:=match ds with
  | [.lst xs]=>(match unInts xs with
    | some R=>if OffOk R then (takeAll (offOf R) 14 (rgI R.length) []).map D.dct else none
    | none=>none)
  | _=>none
theorem F_taker_some {ds:List D} {d:D} (h:F_taker_of_each ds=some d):∃ R T,ds=[.lst (R.map fun r=>D.lst (r.map D.int))]∧OffOk R∧takeAll (offOf R) 14 (rgI R.length) []=some T∧d=.dct T:=by
  unfold F_taker_of_each at h
  split at h
  · rename_i xs
    split at h
    · rename_i R e
      split at h
      · rename_i ok
        obtain ⟨T,e2,e3⟩:=Option.map_eq_some_iff.mp h
        exact ⟨R,T,by rw [← unInts_some e],ok,e2,e3.symm⟩
      · cases h
    · cases h
  · cases h
theorem F_taker_eq {R:List (List Int)} {T:Tk} (ok:OffOk R) (e:takeAll (offOf R) 14 (rgI R.length) []=some T):F_taker_of_each [.lst (R.map fun r=>D.lst (r.map D.int))]=some (.dct T):=by
  unfold F_taker_of_each
  dsimp only
  rw [unInts_map]
  dsimp only
  rw [if_pos ok,e]
  rfl
theorem takeO_vals {off:Int→List Int}:∀ (n:Nat) (x:Int) (T:Tk) (A:List Int) (b:Bool) (T':Tk) (A':List Int),takeO off n x T A=some (b,T',A')→∀ t u,getZ T' t=some u→u=x∨∃ s,getZ T s=some u
  | 0,x,T,A,b,T',A',e=>by cases e
  | n+1,x,T,A,b,T',A',e=>by
    have key:∀ (ts:List Int) (T:Tk) (A:List Int),takeL (takeO off n) x ts T A=some (b,T',A')→∀ t u,getZ T' t=some u→u=x∨∃ s,getZ T s=some u:=by
      intro ts
      induction ts with
      | nil=>intro T A e; cases e; exact fun t u h=>.inr ⟨t,h⟩
      | cons t ts ih =>
        intro T A e
        unfold takeL at e
        split at e
        · exact ih T A e
        · split at e
          · cases e
            intro s u h
            rw [getZ_put] at h
            split at h
            · cases h; exact .inl rfl
            · exact .inr ⟨s,h⟩
          · rename_i v hv
            split at e
            · rename_i T1 A1 e1
              cases e
              intro s u h
              rw [getZ_put] at h
              split at h
              · cases h; exact .inl rfl
              · rcases takeO_vals n v T _ _ _ _ e1 s u h with z | z
                · exact .inr ⟨t,by rw [z]; exact hv⟩
                · exact .inr z
            · rename_i T1 A1 e1
              intro s u h
              rcases ih _ _ e s u h with z | ⟨r,z⟩
              · exact .inl z
              · rcases takeO_vals n v T _ _ _ _ e1 r u z with z | z
                · exact .inr ⟨t,by rw [z]; exact hv⟩
                · exact .inr z
            · cases e
    exact key (off x) T A e
theorem rgI_drop {m i:Nat} (h:i<m):(rgI m).drop i=(i:Int)::(rgI m).drop (i+1):=by
  unfold rgI
  rw [← List.map_drop,← List.map_drop,List.drop_eq_getElem_cons (by rw [List.length_range]; exact h),List.getElem_range]
  rfl
theorem st_urgent_pairs (x0 x1:D):stD 5 [false,false] [x0,x1]=[.bo x0,.bo x1,.un,.un,.un]:=rfl
noncomputable def B_urgent_pairs:DS:=(sSeq (sSet 2 (dCall F_taker_of_each (dCons (dCall F_offers (dCons (dVar 0) (dCons (dVar 1) dNil))) dNil)))
 (sSeq (sSet 3 (dF1 lenD (dIx (dVar 0) (dC (.int 0)))))
 (sSeq (sSet 4 (dLst (dComp 1 [2,0] (dRg1 (dVar 3)) (gN true 0) (dT (dLt (dGetD (dVar 1) (dVar 0)) (dF1 lenD (dVar 2)))) (dLst (dCons (dGetD (dVar 1) (dVar 0)) (dCons (dVarI 0) dNil))))))
 (sRet (dLst (dSrtL (dVarI 4)))))))
@[irreducible] noncomputable def F_urgent_pairs:List D→Option D:=runD 5 [false,false] B_urgent_pairs
theorem F_urgent_pairs_def:F_urgent_pairs=runD 5 [false,false] B_urgent_pairs:=by unfold F_urgent_pairs; rfl
theorem st_phases (x0:D):stD 8 [false] [x0]=[.bo x0,.un,.un,.un,.un,.un,.un,.un]:=rfl
noncomputable def B_phases:DS:=(sSeq (sSetM 1 (dCompM 1 [] (asL (dVar 0)) (gN false 0) dTrue (gFlat (dLof (dVar 0)))))
 (sSeq (sSet 2 (dCall F_open_end (dCons (dVar 0) dNil)))
 (sSeq (sSetO 3 dNil)
 (sSeq (sWhile (dT (dGt (dVar 2) (dC (.int 0))))
 (sSeq (sSet 4 (dCall F_urgent_pairs (dCons (dVar 1) (dCons (dVar 2) dNil))))
 (sSeq (sSet 5 (dCall F_longest_hours (dCons (dVar 1) (dCons (dVar 2) (dCons (dVar 4) dNil)))))
 (sSeq (sFor (asL (dVarI 4)) (gUn 2 (gsCons (gN true 6) (gsCons (gN true 7) gsNil)))
 (sAug2 (fun x y=>x-y) 1 (dVar 6) (dVar 7) (dVar 5)))
 (sSeq (sAug (fun x y=>x-y) 2 (dVar 5))
 (sApp 3 (dLst (dCons (dVarI 5) (dCons (dVarI 4) dNil)))))))))
    (sFrz 3 (sRet (dVarI 3)))))))
@[irreducible] noncomputable def F_phases:List D→Option D:=runD 8 [false] B_phases
theorem F_phases_def:F_phases=runD 8 [false] B_phases:=by unfold F_phases; rfl
theorem st_l_whole (x0:D):stD 1 [false] [x0]=[.bo x0]:=rfl
noncomputable def B_l_whole:DS:=(sRet (dAndV (dIsi "int" (dVar 0)) (dNotV (dIsi "bool" (dVar 0)))))
@[irreducible] noncomputable def F_l_whole:List D→Option D:=runD 1 [false] B_l_whole
theorem F_l_whole_def:F_l_whole=runD 1 [false] B_l_whole:=by unfold F_l_whole; rfl
theorem st_l_cell_at (x0 x1:D):stD 2 [false,false] [x0,x1]=[.bo x0,.bo x1]:=rfl
noncomputable def B_l_cell_at:DS:=(sSeq (sIf (dT (dLt (dVar 1) (dF1 lenD (dVar 0))))
 (sRet (gScal (dIx (dVar 0) (dVar 1))))
      sPass)
 (sRet (dC (.int 0))))
@[irreducible] noncomputable def F_l_cell_at:List D→Option D:=runD 2 [false,false] B_l_cell_at
theorem F_l_cell_at_def:F_l_cell_at=runD 2 [false,false] B_l_cell_at:=by unfold F_l_cell_at; rfl
theorem st_l_mixed (x0 x1:D):stD 3 [false,false] [x0,x1]=[.bo x0,.bo x1,.un]:=rfl
noncomputable def B_l_mixed:DS:=(sSeq (sSet 2 (dMod (dAdd (dAdd (dMul (dVar 0) (dC (.int 48271))) (dMul (dMul (dVar 1) (dVar 1)) (dC (.int 69621)))) (dC (.int 3))) (dC (.int 2147483647))))
 (sRet (dMod (dMul (dVar 2) (dVar 2)) (dC (.int 2147483629)))))
@[irreducible] noncomputable def F_l_mixed:List D→Option D:=runD 3 [false,false] B_l_mixed
theorem F_l_mixed_def:F_l_mixed=runD 3 [false,false] B_l_mixed:=by unfold F_l_mixed; rfl
theorem st_l_numbers (x0:D):stD 3 [false] [x0]=[.bo x0,.un,.un]:=rfl
noncomputable def B_l_numbers:DS:=(sSeq (sSetO 1 (dComp 1 [0] (dRg1 (dC (.int 36))) (gN true 0) dTrue (dCall F_l_mixed (dCons (dCall F_l_cell_at (dCons (dVar 1) (dCons (dC (.int 2)) dNil))) (dCons (dAdd (dC (.int 90)) (dVar 0)) dNil)))))
 (sSeq (sFor (dRg2 (dC (.int 3)) (dMin2 (dC (.int 63)) (dF1 lenD (dVar 0)))) (gN true 2)
 (sPut 1 (dMod (dVar 2) (dC (.int 36))) (dCall F_l_mixed (dCons (dAdd (dIx (dVar 1) (dMod (dVar 2) (dC (.int 36)))) (dIx (dVar 0) (dVar 2))) (dCons (dVar 2) dNil)))))
    (sFrz 1 (sRet (dVarI 1)))))
@[irreducible] noncomputable def F_l_numbers:List D→Option D:=runD 3 [false] B_l_numbers
theorem F_l_numbers_def:F_l_numbers=runD 3 [false] B_l_numbers:=by unfold F_l_numbers; rfl
theorem st_l_size (x0:D):stD 1 [false] [x0]=[.bo x0]:=rfl
noncomputable def B_l_size:DS:=(sSeq (sIf (dT (dEq false (dMod (dVar 0) (dC (.int 3))) (dC (.int 1))))
 (sRet (dC (.int 6)))
      sPass)
 (sRet (dMod (dFdiv (dVar 0) (dC (.int 3))) (dC (.int 7)))))
@[irreducible] noncomputable def F_l_size:List D→Option D:=runD 1 [false] B_l_size
theorem F_l_size_def:F_l_size=runD 1 [false] B_l_size:=by unfold F_l_size; rfl
theorem st_l_hours (x0 x1:D):stD 2 [false,false] [x0,x1]=[.bo x0,.bo x1]:=rfl
noncomputable def B_l_hours:DS:=(sSeq (sIf (dT (dEq false (dVar 1) (dC (.int 0))))
 (sRet (dMod (dVar 0) (dC (.int 6))))
      sPass)
 (sSeq (sIf (dT (dEq false (dVar 1) (dC (.int 1))))
 (sRet (dMul (dMod (dFdiv (dVar 0) (dC (.int 6))) (dC (.int 9))) (dF1 intD (dLt (dMod (dVar 0) (dC (.int 6))) (dC (.int 2))))))
      sPass)
 (sSeq (sIf (dT (dEq false (dVar 1) (dC (.int 2))))
 (sRet (dAdd (dMul (dVar 0) (dPow (dC (.int 10)) (dC (.int 40)))) (dCall F_l_mixed (dCons (dVar 0) (dCons (dC (.int 5)) dNil)))))
      sPass)
 (sRet (dMul (dMod (dVar 0) (dC (.int 2))) (dPow (dC (.int 10)) (dC (.int 49))))))))
@[irreducible] noncomputable def F_l_hours:List D→Option D:=runD 2 [false,false] B_l_hours
theorem F_l_hours_def:F_l_hours=runD 2 [false,false] B_l_hours:=by unfold F_l_hours; rfl
theorem st_l_table (x0:D):stD 10 [false] [x0]=[.bo x0,.un,.un,.un,.un,.un,.un,.un,.un,.un]:=rfl
noncomputable def B_l_table:DS:=(sSeq (sSet 1 (dCall F_l_numbers (dCons (dVar 0) dNil)))
 (sSeq (sSet 2 (dCall F_l_cell_at (dCons (dVar 0) (dCons (dC (.int 2)) dNil))))
 (sSeq (sSet 3 (dCall F_l_size (dCons (dCall F_l_cell_at (dCons (dVar 0) (dCons (dC (.int 0)) dNil))) dNil)))
 (sSeq (sSet 4 (dMul (dCall F_l_size (dCons (dCall F_l_cell_at (dCons (dVar 0) (dCons (dC (.int 1)) dNil))) dNil)) (dF1 intD (dGt (dVar 3) (dC (.int 0))))))
 (sSeq (sSetO 5 dNil)
 (sSeq (sFor (dRg1 (dVar 3)) (gN true 6)
 (sSeq (sSetO 7 dNil)
 (sSeq (sFor (dRg1 (dVar 4)) (gN true 8)
 (sSeq (sSet 9 (dOrV (dEq false (dVar 6) (dMod (dFdiv (dVar 2) (dC (.int 4))) (dC (.int 12)))) (dEq false (dVar 8) (dMod (dFdiv (dVar 2) (dC (.int 48))) (dC (.int 12))))))
 (sApp 7 (dMul (dCall F_l_hours (dCons (dIx (dVar 1) (dAdd (dMul (dC (.int 6)) (dVar 6)) (dVar 8))) (dCons (dMod (dVar 2) (dC (.int 4))) dNil))) (dF1 intD (dNotV (dVar 9)))))))
    (sFrz 7 (sApp 5 (dVarI 7))))))
    (sFrz 5 (sRet (dVarI 5)))))))))
@[irreducible] noncomputable def F_l_table:List D→Option D:=runD 10 [false] B_l_table
theorem F_l_table_def:F_l_table=runD 10 [false] B_l_table:=by unfold F_l_table; rfl
theorem st_l_sums (x0:D):stD 3 [false] [x0]=[.bo x0,.un,.un]:=rfl
noncomputable def B_l_sums:DS:=(sSeq (sSet 1 (dLst (dComp 1 [] (asL (dVar 0)) (gN false 0) dTrue (dF1 sumD (dVar 0)))))
 (sSeq (sSet 2 (dF1 maxD (dLst (dCat (dLst (dComp 1 [] (asL (dVar 0)) (gN false 0) dTrue (dF1 lenD (dVar 0)))) (dLst (dCons (dC (.int 0)) dNil))))))
 (sRet (dTup (dCons (dVarI 1) (dCons (dLst (dComp 1 [0] (dRg1 (dVar 2)) (gN true 0) dTrue (dF1 sumD (dLst (dComp 1 [0] (asL (dVar 1)) (gN false 0) dTrue (gScal (dIx (dVar 0) (dVar 1)))))))) dNil))))))
@[irreducible] noncomputable def F_l_sums:List D→Option D:=runD 3 [false] B_l_sums
theorem F_l_sums_def:F_l_sums=runD 3 [false] B_l_sums:=by unfold F_l_sums; rfl
theorem st_l_end (x0:D):stD 2 [false] [x0]=[.bo x0,.un]:=rfl
noncomputable def B_l_end:DS:=(sSeq (sSet 1 (dCall F_l_sums (dCons (dVar 0) dNil)))
 (sRet (dF1 maxD (dLst (dCat (dLst (dCat (dIx (dVarI 1) (dC (.int 0))) (dIx (dVarI 1) (dC (.int 1))))) (dLst (dCons (dC (.int 0)) dNil)))))))
@[irreducible] noncomputable def F_l_end:List D→Option D:=runD 2 [false] B_l_end
theorem F_l_end_def:F_l_end=runD 2 [false] B_l_end:=by unfold F_l_end; rfl
theorem st_l_two (x0 x1 x2:D):stD 3 [false,false,false] [x0,x1,x2]=[.bo x0,.bo x1,.bo x2]:=rfl
noncomputable def B_l_two:DS:=(sSeq (sIf (dOr (dNot (dTru (dIsi "list" (dVar 0)))) (dOr (dT (dEq true (dF1 lenD (dVar 0)) (dC (.int 2)))) (dOr (dNot (dTru (dCall F_l_whole (dCons (dIx (dVar 0) (dC (.int 0))) dNil)))) (dNot (dTru (dCall F_l_whole (dCons (dIx (dVar 0) (dC (.int 1))) dNil)))))))
 (sRet (dC (.bl false)))
      sPass)
 (sRet (dAndV (dLe (dC (.int 0)) (dIx (dVar 0) (dC (.int 0)))) (dAndV (dLt (dIx (dVar 0) (dC (.int 0))) (dVar 1)) (dAndV (dLe (dC (.int 0)) (dIx (dVar 0) (dC (.int 1)))) (dLt (dIx (dVar 0) (dC (.int 1))) (dVar 2)))))))
@[irreducible] noncomputable def F_l_two:List D→Option D:=runD 3 [false,false,false] B_l_two
theorem F_l_two_def:F_l_two=runD 3 [false,false,false] B_l_two:=by unfold F_l_two; rfl
theorem st_l_phase (x0 x1 x2:D):stD 6 [true,true,false] [x0,x1,x2]=[.pu x0,.pu x1,.bo x2,.un,.un,.un]:=rfl
noncomputable def B_l_phase:DS:=(sSeq (sIf (dOr (dNot (dTru (dIsi "list" (dVar 0)))) (dOr (dT (dEq true (dF1 lenD (dVar 0)) (dC (.int 2)))) (dOr (dNot (dTru (dCall F_l_whole (dCons (dIx (dVar 0) (dC (.int 0))) dNil)))) (dT (dLt (dIx (dVar 0) (dC (.int 0))) (dC (.int 1)))))))
 (sRet (dC (.bl false)))
      sPass)
 (sSeq (sIf (dNot (dTru (dIsi "list" (dIx (dVar 0) (dC (.int 1))))))
 (sRet (dC (.bl false)))
      sPass)
 (sSeq (sSetO 3 dNil)
 (sSeq (sSetO 4 dNil)
 (sSeq (sFor (asL (dIx (dVarI 0) (dC (.int 1)))) (gN true 5)
 (sSeq (sIf (dNot (dTru (dCall F_l_two (dCons (dVar 5) (dCons (dF1 lenD (dVar 1)) (dCons (dF1 lenD (dIx (dVar 1) (dC (.int 0)))) dNil))))))
 (sRet (dC (.bl false)))
      sPass)
 (sSeq (sIf (dOr (dT (dIn false (dIx (dVar 5) (dC (.int 0))) (dVar 3))) (dT (dIn false (dIx (dVar 5) (dC (.int 1))) (dVar 4))))
 (sRet (dC (.bl false)))
      sPass)
 (sSeq (sApp 3 (dIx (dVarI 5) (dC (.int 0))))
 (sSeq (sApp 4 (dIx (dVarI 5) (dC (.int 1))))
 (sPut2P 2 (dIx (dVar 5) (dC (.int 0))) (dIx (dVar 5) (dC (.int 1))) (dAdd (dIx (dIx (dVar 2) (dIx (dVar 5) (dC (.int 0)))) (dIx (dVar 5) (dC (.int 1)))) (dIx (dVar 0) (dC (.int 0))))))))))
    sPass)))))
@[irreducible] noncomputable def F_l_phase:Addr→List Addr→List D→Option (List (List D)):=runU 6 2 [true,true,false] B_l_phase
theorem F_l_phase_def:F_l_phase=runU 6 2 [true,true,false] B_l_phase:=by unfold F_l_phase; rfl
theorem st_l_is_phases (x0 x1:D):stD 5 [true,true] [x0,x1]=[.pu x0,.pu x1,.un,.un,.un]:=rfl
noncomputable def B_l_is_phases:DS:=(sSeq (sIf (dOr (dNot (dTru (dIsi "list" (dVar 1)))) (dT (dGt (dF1 lenD (dVar 1)) (dC (.int 100)))))
 (sRet (dC (.bl false)))
      sPass)
 (sSeq (sSetM 2 (dCompM 1 [] (asL (dVarI 0)) (gN true 0) dTrue (dRep (dCons (dC (.int 0)) dNil) (dF1 lenD (dVar 0)))))
 (sSeq (sSet 3 (dC (.int 0)))
 (sSeq (sFor (asL (dVarI 1)) (gN true 4)
 (sSeq (sIfU (dT (dEq false (dVar 0) (dLst dNil))) 2 F_l_phase (dCons (dVarI 4) (dCons (dVarI 0) (dCons (dVar 2) dNil))))
 (sSet 3 (dAdd (dVar 3) (dIx (dVar 4) (dC (.int 0)))))))
 (sRet (dAndV (dEq false (dVar 2) (dVar 0)) (dEq false (dVar 3) (dCall F_l_end (dCons (dVar 0) dNil)))))))))
@[irreducible] noncomputable def F_l_is_phases:List D→Option D:=runD 5 [true,true] B_l_is_phases
theorem F_l_is_phases_def:F_l_is_phases=runD 5 [true,true] B_l_is_phases:=by unfold F_l_is_phases; rfl
theorem st_law (x0:D):stD 3 [false] [x0]=[.bo x0,.un,.un]:=rfl
noncomputable def B_law:DS:=(sSeq (sSet 1 (dCall F_l_table (dCons (dVar 0) dNil)))
 (sSeq (sSet 2 (dLst (dComp 1 [] (asL (dVarI 1)) (gN true 0) dTrue (dLst (dLof (dVarI 0))))))
 (sRet (dAndV (dCall F_l_is_phases (dCons (dVarI 1) (dCons (dCall F_phases (dCons (dVar 2) dNil)) dNil))) (dEq false (dVar 2) (dVar 1))))))
@[irreducible] noncomputable def F_law:List D→Option D:=runD 3 [false] B_law
theorem F_law_def:F_law=runD 3 [false] B_law:=by unfold F_law; rfl
end
section
variable [Tabs] {P:Program} {w:World} {K:PySem.W.Frag} {mg:Str→Option Value} {base:Heap} {ad:Adr}
theorem ok_loads (T:Txt K mg ad):FnOk P w K mg base CX0 1 ad.f_loads ad.d_loads ["table"] (spD .v K [false] F_loads):=by
  rw [F_loads_def]
  exact Fun.okD (N:=["table", "benches", "columns"]) T.F_loads sc_loads [false] rfl B_loads fun cdv A outer s H E hr=>⟨_,
 (pss_cons (ps_set (i:=1) sc_loads.nd rfl (Or.inl rfl) (pe_ifExp (pt_truthK (K:=K) rfl (pv 0) (fun _=>rfl)) (pe_callB (call_lenK (K:=K) rfl) rfl T.z_len bt_len (pa_cons (pe_ix (ix_seqK (K:=K) rfl) (pv 0) pe_int (fun _ _=>rfl)) pa_nil)) pe_int))
 (pss_cons (ps_cM0 (i:=2) sc_loads.nd rfl rfl rfl (pi_range1 rfl T.z_range (pa_cons (pv 1) pa_nil)) (ts:=["bench"]) (zs:=["table"]) (k:=1) (is:=[0]) rfl (.cons rfl .nil) (.cons rfl (Or.inl rfl) rfl (by first | exact Or.inl rfl | exact Or.inr rfl) .nil) rfl rfl rfl (low_name (by decide)) (fun _ _ _ _ _=>(pgbC (i:=0) (by decide +kernel) rfl (Or.inr rfl) (Or.inl rfl))) (fun _ _ _ _ _=>(pe_callB (call_sumK (K:=K) rfl rfl) rfl T.z_sum bt_sum (pa_cons (pe_cN0 rfl (pi_listK (K:=K) rfl (pv 1)) (ts:=["row"]) (zs:=["bench"]) (k:=1) (is:=[0]) rfl (.cons rfl .nil) (.cons rfl (by first | exact Or.inl rfl | exact Or.inr rfl) rfl (by first | exact Or.inl rfl | exact Or.inr rfl) .nil) rfl (low_name (by decide)) (fun _ _ _ _ _=>(pgb (by decide +kernel) rfl rfl)) (fun _ _ _ _ _=>(pe_ix (ix_seqK (K:=K) rfl) (pv 0) (pv 1) (fun _ _=>rfl))) rfl (by decide +kernel) rfl (by decide +kernel)) pa_nil))) rfl rfl (by decide +kernel))
 (pss_one (ps_ret (pe_tup (pa_cons (pe_cN0 rfl (pi_listK (K:=K) rfl (pv 0)) (ts:=["row"]) (zs:=[]) (k:=1) (is:=[]) rfl .nil .nil rfl (low_name (by decide)) (fun _ _ _ _ _=>(pgb (by decide +kernel) rfl rfl)) (fun _ _ _ _ _=>(pe_callB (call_sumK (K:=K) rfl rfl) rfl T.z_sum bt_sum (pa_cons (pv 0) pa_nil))) rfl (by decide +kernel) rfl (by decide +kernel)) (pa_cons (pv 2) pa_nil))))))),
 (ss_seq (ss_set (si_if (st_tru (K:=K) (sb_var 0)) (si_len (sb_ix (sb_var 0) (SemI.b si_int))) si_int))
 (ss_seq (ss_setC (SemF.l (sf_comp (m:=true) (k:=1) (cs:=[0]) (SemW.c (sw_range1 (sb_var 1))) (sg_name 0) st_true (si_sum (SemI.b (SemF.l (sf_comp (m:=false) (k:=1) (cs:=[0]) (swc_listB (sb_var 1)) (sg_name 0) st_true (SemB.i (sb_ix (sb_var 0) (sb_var 1))))))))))
 (ss_ret (si_tup (n:=2) (sa_own (SemF.l (sf_comp (m:=false) (k:=1) (cs:=[]) (swc_listB (sb_var 0)) (sg_name 0) st_true (si_sum (sb_var 0)))) (sa_own (si_var 2) sa_nil)) (by decide)))))⟩
theorem ok_open_end (T:Txt K mg ad):FnOk P w K mg base CX0 2 ad.f_open_end ad.d_open_end ["table"] (spD .v K [false] F_open_end):=by
  rw [F_open_end_def]
  exact Fun.okD (N:=["table", "sums"]) T.F_open_end sc_open_end [false] rfl B_open_end fun cdv A outer s H E hr=>⟨_,
 (pss_cons (ps_set (i:=1) sc_open_end.nd rfl (Or.inl rfl) (pe_call (ok_loads T) (hr.mono (by decide)) rfl T.m_loads T.F_loads.kp T.b_loads .nil pass0 (pa_cons (pv 0) pa_nil)))
 (pss_one (ps_ret (pe_callBK (call_maxDK (K:=K) rfl rfl) rfl T.z_max bt_max (pa_cons (pe_op op_catR (pe_ix (ix_seqK (K:=K) rfl) (pv 1) pe_int (fun _ _=>rfl)) (pe_ix (ix_seqK (K:=K) rfl) (pv 1) pe_int (fun _ _=>rfl))) pa_nil) (pk_cons pe_int pk_nil))))),
 (ss_seq (ss_set (si_call (sa_any (sb_var 0) sa_nil)))
 (ss_ret (si_maxD (SemI.b (SemF.l (sf_cat (si_ix (si_var 1) (SemI.b si_int)) (si_ix (si_var 1) (SemI.b si_int))))) si_int)))⟩
theorem ok_longest_hours (T:Txt K mg ad):FnOk P w K mg base CX0 2 ad.f_longest_hours ad.d_longest_hours ["left", "rest", "pairs"] (spD .v K [false,false,false] F_longest_hours):=by
  rw [F_longest_hours_def]
  exact Fun.okD (N:=["left", "rest", "pairs", "sums", "hands", "benches", "bounds"]) T.F_longest_hours sc_longest_hours [false,false,false] rfl B_longest_hours fun cdv A outer s H E hr=>⟨_,
 (pss_cons (ps_set (i:=3) sc_longest_hours.nd rfl (Or.inl rfl) (pe_call (ok_loads T) (hr.mono (by decide)) rfl T.m_loads T.F_loads.kp T.b_loads .nil pass0 (pa_cons (pv 0) pa_nil)))
 (pss_cons (ps_set (i:=4) sc_longest_hours.nd rfl (Or.inr rfl) (pe_cN0 rfl (pi_listK (K:=K) rfl (pv 2)) (ts:=["pair"]) (zs:=[]) (k:=1) (is:=[]) rfl .nil .nil rfl (low_name (by decide)) (fun _ _ _ _ _=>(pgb (by decide +kernel) rfl rfl)) (fun _ _ _ _ _=>(pe_ix (ix_seqK (K:=K) rfl) (pv 0) pe_int (fun _ _=>rfl))) rfl (by decide +kernel) rfl (by decide +kernel)))
 (pss_cons (ps_set (i:=5) sc_longest_hours.nd rfl (Or.inr rfl) (pe_cN0 rfl (pi_listK (K:=K) rfl (pv 2)) (ts:=["pair"]) (zs:=[]) (k:=1) (is:=[]) rfl .nil .nil rfl (low_name (by decide)) (fun _ _ _ _ _=>(pgb (by decide +kernel) rfl rfl)) (fun _ _ _ _ _=>(pe_ix (ix_seqK (K:=K) rfl) (pv 0) pe_int (fun _ _=>rfl))) rfl (by decide +kernel) rfl (by decide +kernel)))
 (pss_cons (ps_cN0 (i:=6) sc_longest_hours.nd rfl rfl rfl (pi_listK (K:=K) rfl (pv 2)) (ts:=["pair"]) (zs:=["left"]) (k:=1) (is:=[0]) rfl (.cons rfl .nil) (.cons rfl (Or.inl rfl) rfl (by first | exact Or.inl rfl | exact Or.inr rfl) .nil) rfl (low_name (by decide)) (fun _ _ _ _ _=>(pgb (by decide +kernel) rfl rfl)) (fun _ _ _ _ _=>(pe_ix (ix_seqK (K:=K) rfl) (pe_ix (ix_seqK (K:=K) rfl) (pv 1) (pe_ix (ix_seqK (K:=K) rfl) (pv 0) pe_int (fun _ _=>rfl)) (fun _ _=>rfl)) (pe_ix (ix_seqK (K:=K) rfl) (pv 0) pe_int (fun _ _=>rfl)) (fun _ _=>rfl))) rfl (by decide +kernel) rfl (by decide +kernel))
 (pss_cons (ps_expr (pe_bm PySem.F.plainAttrs_list PySem.F.slot_list_extend PySem.F.type_list_extend mt_extR (pv 6) (pa_cons (pe_cN1 rfl (pi_enumK (K:=K) rfl rfl T.z_enumerate (pe_ix (ix_seqK (K:=K) rfl) (pv 3) pe_int (fun _ _=>rfl))) (ts:=["hand", "load"]) (zs:=["hands", "rest"]) (k:=2) (is:=[4,1]) rfl (.cons rfl (.cons rfl .nil)) (.cons rfl (Or.inl rfl) rfl (by first | exact Or.inl rfl | exact Or.inr rfl) (.cons rfl (Or.inl rfl) rfl (by first | exact Or.inl rfl | exact Or.inr rfl) .nil)) rfl (low_seq (lows_cons (low_name (by decide)) (lows_cons (low_name (by decide)) lows_nil))) (fun _ _ _ _ _=>(pg_seqK (K:=K) rfl rfl (pgs_cons (pgb (by decide +kernel) rfl rfl) (pgs_cons (pgb (by decide +kernel) rfl rfl) pgs_nil)))) (fun _ _ _ _ _=>(pt_cmpR (op_notIn_seqK (K:=K) rfl) (pv 0) (pv 2) (by with_unfolding_all rfl))) (fun _ _ _ _ _=>(pe_op op_sub (pv 3) (pv 1))) rfl (by decide +kernel) rfl (by decide +kernel)) pa_nil)))
 (pss_cons (ps_expr (pe_bm PySem.F.plainAttrs_list PySem.F.slot_list_extend PySem.F.type_list_extend mt_extR (pv 6) (pa_cons (pe_cN1 rfl (pi_enumK (K:=K) rfl rfl T.z_enumerate (pe_ix (ix_seqK (K:=K) rfl) (pv 3) pe_int (fun _ _=>rfl))) (ts:=["bench", "load"]) (zs:=["benches", "rest"]) (k:=2) (is:=[5,1]) rfl (.cons rfl (.cons rfl .nil)) (.cons rfl (Or.inl rfl) rfl (by first | exact Or.inl rfl | exact Or.inr rfl) (.cons rfl (Or.inl rfl) rfl (by first | exact Or.inl rfl | exact Or.inr rfl) .nil)) rfl (low_seq (lows_cons (low_name (by decide)) (lows_cons (low_name (by decide)) lows_nil))) (fun _ _ _ _ _=>(pg_seqK (K:=K) rfl rfl (pgs_cons (pgb (by decide +kernel) rfl rfl) (pgs_cons (pgb (by decide +kernel) rfl rfl) pgs_nil)))) (fun _ _ _ _ _=>(pt_cmpR (op_notIn_seqK (K:=K) rfl) (pv 0) (pv 2) (by with_unfolding_all rfl))) (fun _ _ _ _ _=>(pe_op op_sub (pv 3) (pv 1))) rfl (by decide +kernel) rfl (by decide +kernel)) pa_nil)))
 (pss_one (ps_ret (pe_callB (call_min1K (K:=K) rfl rfl) rfl T.z_min bt_min (pa_cons (pv 6) pa_nil)))))))))),
 (ss_seq (ss_set (si_call (sa_any (sb_var 0) sa_nil)))
 (ss_seq (ss_set (SemF.l (sf_comp (m:=false) (k:=1) (cs:=[]) (swc_listB (sb_var 2)) (sg_name 0) st_true (SemB.i (sb_ix (sb_var 0) (SemI.b si_int))))))
 (ss_seq (ss_set (SemF.l (sf_comp (m:=false) (k:=1) (cs:=[]) (swc_listB (sb_var 2)) (sg_name 0) st_true (SemB.i (sb_ix (sb_var 0) (SemI.b si_int))))))
 (ss_seq (ss_setOC (sf_comp (m:=false) (k:=1) (cs:=[0]) (swc_listB (sb_var 2)) (sg_name 0) st_true (SemB.i (sb_ix (sb_ix (sb_var 1) (sb_ix (sb_var 0) (SemI.b si_int))) (sb_ix (sb_var 0) (SemI.b si_int))))))
 (ss_seq (ss_ext (SemF.l (sf_comp (m:=true) (k:=2) (cs:=[4,1]) (SemW.c (sw_enum (si_ix (si_var 3) (SemI.b si_int)))) (sg_un (sgs_cons (sg_name 0) (sgs_cons (sg_name 1) sgs_nil))) (st_test (SemI.b (si_in (neg:=true) (sb_var 0) (sb_var 2)))) (si_sub (sb_var 3) (sb_var 1)))))
 (ss_seq (ss_ext (SemF.l (sf_comp (m:=true) (k:=2) (cs:=[5,1]) (SemW.c (sw_enum (si_ix (si_var 3) (SemI.b si_int)))) (sg_un (sgs_cons (sg_name 0) (sgs_cons (sg_name 1) sgs_nil))) (st_test (SemI.b (si_in (neg:=true) (sb_var 0) (sb_var 2)))) (si_sub (sb_var 3) (sb_var 1)))))
 (ss_ret (si_min (sb_var 6)))))))))⟩
theorem ok_offers (T:Txt K mg ad):FnOk P w K mg base CX0 2 ad.f_offers ad.d_offers ["left", "rest"] (spD .v K [false,false] F_offers):=by
  rw [F_offers_def]
  exact Fun.okD (N:=["left", "rest", "sums", "hands", "benches", "told", "hand", "load", "bench"]) T.F_offers sc_offers [false,false] rfl B_offers fun cdv A outer s H E hr=>⟨_,
 (pss_cons (ps_set (i:=2) sc_offers.nd rfl (Or.inl rfl) (pe_call (ok_loads T) (hr.mono (by decide)) rfl T.m_loads T.F_loads.kp T.b_loads .nil pass0 (pa_cons (pv 0) pa_nil)))
 (pss_cons (ps_set (i:=3) sc_offers.nd rfl (Or.inl rfl) (pe_callB (call_lenK (K:=K) rfl) rfl T.z_len bt_len (pa_cons (pe_ix (ix_seqK (K:=K) rfl) (pv 2) pe_int (fun _ _=>rfl)) pa_nil)))
 (pss_cons (ps_set (i:=4) sc_offers.nd rfl (Or.inr rfl) (pe_callB (call_lenK (K:=K) rfl) rfl T.z_len bt_len (pa_cons (pe_ix (ix_seqK (K:=K) rfl) (pv 2) pe_int (fun _ _=>rfl)) pa_nil)))
 (pss_cons (ps_set (i:=5) sc_offers.nd rfl (Or.inl rfl) (pe_lst pa_nil))
 (pss_cons (ps_for PassesOwn.never rfl (pi_enumK (K:=K) rfl rfl T.z_enumerate (pe_ix (ix_seqK (K:=K) rfl) (pv 2) pe_int (fun _ _=>rfl))) (pg_seqK (K:=K) rfl rfl (pgs_cons (pg_name (i:=6) sc_offers.nd rfl (Or.inr rfl)) (pgs_cons (pg_name (i:=7) sc_offers.nd rfl (Or.inl rfl)) pgs_nil)))
 (pss_cons (ps_expr (pe_bm PySem.F.plainAttrs_list PySem.F.slot_list_append PySem.F.type_list_append mt_append (pv 5) (pa_cons (pe_cN1 rfl (pi_range1 rfl T.z_range (pa_cons (pv 4) pa_nil)) (ts:=["bench"]) (zs:=["left", "hand"]) (k:=1) (is:=[0,6]) rfl (.cons rfl (.cons rfl .nil)) (.cons rfl (Or.inl rfl) rfl (by first | exact Or.inl rfl | exact Or.inr rfl) (.cons rfl (Or.inl rfl) rfl (by first | exact Or.inl rfl | exact Or.inr rfl) .nil)) rfl (low_name (by decide)) (fun _ _ _ _ _=>(pgb (by decide +kernel) rfl rfl)) (fun _ _ _ _ _=>(pt_cmpR op_gt (pe_ix (ix_seqK (K:=K) rfl) (pe_ix (ix_seqK (K:=K) rfl) (pv 1) (pv 2) (fun _ _=>rfl)) (pv 0) (fun _ _=>rfl)) pe_int (nomark _))) (fun _ _ _ _ _=>(pv 0)) rfl (by decide +kernel) rfl (by decide +kernel)) pa_nil)))
 (pss_one (ps_if (pt_cmpR op_lt (pv 7) (pv 1) (nomark _))
 (pss_one (ps_expr (pe_bm PySem.F.plainAttrs_list PySem.F.slot_list_append PySem.F.type_list_append mt_append (pe_ix (ix_seqK (K:=K) rfl) (pv 5) (pv 6) (fun _ _=>rfl)) (pa_cons (pe_op op_add (pv 4) (pv 6)) pa_nil))))
 pss_nil))))
 (pss_cons (ps_for PassesOwn.never rfl (pi_enumK (K:=K) rfl rfl T.z_enumerate (pe_ix (ix_seqK (K:=K) rfl) (pv 2) pe_int (fun _ _=>rfl))) (pg_seqK (K:=K) rfl rfl (pgs_cons (pg_name (i:=8) sc_offers.nd rfl (Or.inl rfl)) (pgs_cons (pg_name (i:=7) sc_offers.nd rfl (Or.inl rfl)) pgs_nil)))
 (pss_cons (ps_expr (pe_bm PySem.F.plainAttrs_list PySem.F.slot_list_append PySem.F.type_list_append mt_append (pv 5) (pa_cons (pe_cN0 rfl (pi_range1 rfl T.z_range (pa_cons (pv 3) pa_nil)) (ts:=["hand"]) (zs:=["benches"]) (k:=1) (is:=[4]) rfl (.cons rfl .nil) (.cons rfl (Or.inl rfl) rfl (by first | exact Or.inl rfl | exact Or.inr rfl) .nil) rfl (low_name (by decide)) (fun _ _ _ _ _=>(pgb (by decide +kernel) rfl rfl)) (fun _ _ _ _ _=>(pe_op op_add (pv 1) (pv 0))) rfl (by decide +kernel) rfl (by decide +kernel)) pa_nil)))
 (pss_one (ps_if (pt_cmpR op_lt (pv 7) (pv 1) (nomark _))
 (pss_one (ps_expr (pe_bm PySem.F.plainAttrs_list PySem.F.slot_list_append PySem.F.type_list_append mt_append (pe_ix (ix_seqK (K:=K) rfl) (pv 5) (pe_op op_add (pv 3) (pv 8)) (fun _ _=>rfl)) (pa_cons (pv 8) pa_nil))))
 pss_nil))))
 (pss_one (ps_ret (pv 5))))))))),
 (ss_seq (ss_set (si_call (sa_any (sb_var 0) sa_nil)))
 (ss_seq (ss_set (si_len (sb_ix (sb_var 2) (SemI.b si_int))))
 (ss_seq (ss_set (si_len (sb_ix (sb_var 2) (SemI.b si_int))))
 (ss_seq (ss_setM sm_nil)
 (ss_seq (ss_for (m:=true) (sw_enum (si_ix (si_var 2) (SemI.b si_int))) (sg_un (sgs_cons (sg_name 6) (sgs_cons (sg_name 7) sgs_nil)))
 (ss_seq (ss_appM (sf_comp (m:=true) (k:=1) (cs:=[0,6]) (SemW.c (sw_range1 (sb_var 4))) (sg_name 0) (st_test (SemI.b (si_gt (sb_ix (sb_ix (sb_var 1) (sb_var 2)) (sb_var 0)) (SemI.b si_int)))) (si_var 0)))
 (ss_if (st_test (SemI.b (si_lt (sb_var 7) (sb_var 1))))
 (ss_app2 (sb_var 6) (si_add (sb_var 4) (sb_var 6)))
 ss_pass)))
 (ss_seq (ss_for (m:=true) (sw_enum (si_ix (si_var 2) (SemI.b si_int))) (sg_un (sgs_cons (sg_name 8) (sgs_cons (sg_name 7) sgs_nil)))
 (ss_seq (ss_appM (sf_comp (m:=true) (k:=1) (cs:=[4]) (SemW.c (sw_range1 (sb_var 3))) (sg_name 0) st_true (si_add (sb_var 1) (sb_var 0))))
 (ss_if (st_test (SemI.b (si_lt (sb_var 7) (sb_var 1))))
 (ss_app2 (SemI.b (si_add (sb_var 3) (sb_var 8))) (si_var 8))
 ss_pass)))
 (ss_frz 5 (ss_ret (si_var 5)))))))))⟩
theorem takeO_nd {off:Int→List Int} {W:List Int} (hoff:∀ x t,t∈off x→t∈W):∀ (n:Nat) (x:Int) (T:Tk) (A:List Int) (b:Bool) (T':Tk) (A':List Int),takeO off n x T A=some (b,T',A')→A.Nodup→(∀ t∈A,t∈W)→A'.Nodup∧∀ t∈A',t∈W
  | 0,x,T,A,b,T',A',e,_,_=>by cases e
  | n+1,x,T,A,b,T',A',e,nd,iv=>by
    have key:∀ (ts:List Int) (T:Tk) (A:List Int),(∀ t∈ts,t∈W)→takeL (takeO off n) x ts T A=some (b,T',A')→A.Nodup→(∀ t∈A,t∈W)→A'.Nodup∧∀ t∈A',t∈W:=by
      intro ts
      induction ts with
      | nil=>intro T A _ e nd iv; cases e; exact ⟨nd,iv⟩
      | cons t ts ih =>
        intro T A hts e nd iv
        have hts':∀ t∈ts,t∈W:=fun s hs=>hts s (List.mem_cons_of_mem _ hs)
        unfold takeL at e
        split at e
        · exact ih T A hts' e nd iv
        · rename_i c
          have nd2:(A++[t]).Nodup:=List.nodup_append.mpr ⟨nd,by simp,fun a ha b hb=>by
            rw [List.mem_singleton.mp hb]
            exact fun z=>c (z ▸ ha)⟩
          have iv2:∀ s∈A++[t],s∈W:=fun s hs=>(List.mem_append.mp hs).elim (iv s) fun z=>by rw [List.mem_singleton.mp z]; exact hts t List.mem_cons_self
          split at e
          · cases e; exact ⟨nd2,iv2⟩
          · split at e
            · rename_i T1 A1 e1
              cases e
              exact takeO_nd hoff n _ T _ _ _ _ e1 nd2 iv2
            · rename_i T1 A1 e1
              obtain ⟨h1,h2⟩:=takeO_nd hoff n _ T _ _ _ _ e1 nd2 iv2
              exact ih _ _ hts' e h1 h2
            · cases e
    exact key (off x) T A (hoff x) e nd iv
theorem val_akv (k:Int):∀ A:List Int,L2.valV (A.map akv) (.inl k)=if k∈A then some (.bl true) else none
  | []=>by rw [if_neg (by simp)]; rfl
  | p::r=>by
    rw [List.map_cons]
    by_cases e:p=k
    · rw [L2.valV_pos (show (akv p).1=.inl k by show Sum.inl p=_; rw [e]),if_pos (by rw [e]; exact List.mem_cons_self)]
      rfl
    · rw [L2.valV_neg (show ¬ (akv p).1=.inl k from fun z=>e (Sum.inl.inj z)),val_akv k r]
      by_cases c:k∈r
      · rw [if_pos c,if_pos (List.mem_cons_of_mem _ c)]
      · rw [if_neg c,if_neg (fun z=>(List.mem_cons.mp z).elim (fun w=>e w.symm) c)]
theorem put_akv {A:List Int} {t:Int} (h:t∉A):L2.putK (A.map akv) (.inl t) (.bl true)=(A++[t]).map akv:=by
  unfold L2.putK
  rw [if_neg,List.map_append]
  · rfl
  · intro z
    obtain ⟨p,hp,e⟩:=List.any_eq_true.mp z
    obtain ⟨a,ha,rfl⟩:=List.mem_map.mp hp
    have:=Sum.inl.inj (of_decide_eq_true e)
    exact h (this ▸ ha)
theorem ok_take {f:Addr} {fd:FuncData} (F:Fun K "take_one" "take_one" s_take_one f fd) (hb:Binds K fd ["offered", "taker", "takers", "asked"] []) (hm:mg "take_one" = some (.ref f)):∀ n:Nat,n≤30→FnOk P w K mg base CX0 (n+1) f fd ["offered", "taker", "takers", "asked"] (spTk n)
  | 0,_=>Fun.ok (N:=["offered", "taker", "takers", "asked", "thing"]) F sc_take_one (fun vs H Q E h=>by
      obtain ⟨po,p,q,off,m,W,x,T,A,b,T',A',rfl,_⟩:=h
      rfl) fun cdv A outer s H vs Q E hr h=>by
      obtain ⟨po,p,q,off,m,W,x,T,A,b,T',A',_,_,_,_,_,_,_,_,_,_,_,_,_,e,_⟩:=h
      cases e
  | n+1,hn=>Fun.ok (N:=["offered", "taker", "takers", "asked", "thing"]) F sc_take_one (fun vs H Q E h=>by
      obtain ⟨po,p,q,off,m,W,x,T,A,b,T',A',rfl,_⟩:=h
      rfl) fun cdv A outer s H vs Q E hr h=>by
      have ih:=ok_take F hb hm n (by omega)
      refine ⟨_,(pss_cons (ps_for PassesOwn.never rfl (pi_listK (K:=K) rfl (pe_ix (ix_seqK (K:=K) rfl) (pv 0) (pv 1) (fun _ _=>rfl))) (pg_name (i:=4) sc_take_one.nd rfl (Or.inl rfl))
 (pss_cons (ps_if (pt_cmp (pc_din (hu_of hr) (pv 4) (pv 3))) (pss_one ps_continue) pss_nil)
 (pss_cons (ps_dput (hu_of hr) (pv 3) (pv 4) pe_bl rfl)
 (pss_one (ps_if (PW.pt (pw_or (pt_cmp (pc_dnotin (hu_of hr) (pv 4) (pv 2))) (pw_or1 (pt_truthK (K:=K) rfl (pe_call ih hr rfl hm F.kp hb .nil pass0 (pa_cons (pv 0) (pa_cons (pe_dget (hu_of hr) (pv 2) (pv 4) (fun _ _=>rfl)) (pa_cons (pv 2) (pa_cons (pv 3) pa_nil))))) (fun _=>rfl)))))
 (pss_cons (ps_dput (hu_of hr) (pv 2) (pv 4) (pv 1) rfl) (pss_one (ps_ret pe_bl))) pss_nil)))))
 (pss_one (ps_ret pe_bl))),?_⟩
      obtain ⟨po,p,q,off,m,W,x,T,A,b,T',A',rfl,ho,hp,hq,hne,x0,xm,hT,hTl,nd,iv,hoff,hWl,e,hQ⟩:=h
      obtain ⟨as,al,m1,hpo,hrow⟩:=ho
      have hxa:as[x.toNat]?=some as[x.toNat]:=List.getElem?_eq_getElem (by omega)
      generalize as[x.toNat]=a at hxa
      obtain ⟨ha,hal⟩:=hrow _ a hxa
      rw [show ((x.toNat:Nat):Int)=x by omega] at ha hal
      have np:∀ {c:Addr} {xs:List V},Rd H c (.lst xs)→c≠p∧c≠q:=fun {c xs} hc=>by
        constructor
        · intro z
          rcases hc with hc | ⟨o,hc⟩ <;> (rw [z,hp] at hc; cases hc)
        · intro z
          rcases hc with hc | ⟨o,hc⟩ <;> (rw [z,hq] at hc; cases hc)
      have hlst:∀ (T:Tk) (A:List Int) {c:Addr} {xs:List V},Rd H c (.lst xs)→Rd (hp2 H p q T A) c (.lst xs):=fun T A c xs hc=>by
        have e:=hp2_o (H:=H) (T:=T) (A:=A) (np hc).1 (np hc).2
        unfold Rd at hc ⊢
        rw [e]
        exact hc
      refine ⟨_,rfl,_,rfl,.inl ⟨po,as.map V.ref,x,.ref a,rfl,rfl,(.inl hpo),?_,a,rfl,⟨_,(.inl ha)⟩,?_⟩⟩
      · unfold atI
        rw [ixN_in x0 (by rw [List.length_map]; omega)]
        show (as.map V.ref)[x.toNat]?=_
        rw [List.getElem?_map,hxa]
        rfl
      refine ⟨fun i mm σ' H'=>∃ (A1:List Int) (v4:Option V),mm=(off x).length-i∧i≤(off x).length∧σ'=[some (.ref po),some (.int x),some (.ref p),some (.ref q),v4]∧H'=hp2 H p q T A1∧A1.Nodup∧(∀ t∈A1,t∈W)∧takeL (takeO off n) x ((off x).drop i) T A1=some (b,T',A'),⟨_,A,none,rfl,Nat.zero_le _,rfl,(hp2_self hp hq).symm,nd,iv,e⟩,?_⟩
      rintro i mm σ2 H2 ⟨A1,v4,rfl,hi,rfl,rfl,nd1,iv1,e1⟩
      by_cases hlt:i<(off x).length
      · refine .inr ⟨⟨_,.int (off x)[i],(.inl (hlst T A1 ha)),by rw [List.getElem?_map,List.getElem?_eq_getElem hlt]; rfl⟩,fun σ' H'=>∃ (A1:List Int) (v4:Option V),σ'=[some (.ref po),some (.int x),some (.ref p),some (.ref q),v4]∧H'=hp2 H p q T A1∧A1.Nodup∧(∀ t∈A1,t∈W)∧takeL (takeO off n) x ((off x).drop (i+1)) T A1=some (b,T',A'),fun σ' H' ⟨A2,v4,h1,h2,h3,h4,h5⟩=>⟨_,by omega,A2,v4,rfl,hlt,h1,h2,h3,h4,h5⟩,?_⟩
        rintro y H3 ⟨rfl,hy⟩
        have hy:=hy _ ((.inl (hlst T A1 ha)))
        rw [List.getElem?_map,List.getElem?_eq_getElem hlt] at hy
        cases hy
        rw [List.drop_eq_getElem_cons hlt] at e1
        have htW:(off x)[i]∈W:=hoff x _ (List.getElem_mem hlt)
        generalize (off x)[i]=t at e1 htW
        unfold takeL at e1
        dsimp only [gName,List.set_cons_succ,List.set_cons_zero]
        have hq1:∀ A1:List Int,hp2 H p q T A1 q=some (.dK (A1.map akv)):=fun A1=>hp2_q
        have hp1:∀ (T:Tk) (A1:List Int),hp2 H p q T A1 p=some (.dK (T.map dkv)):=fun T A1=>hp2_p hne
        have hA1:=nd_len nd1 iv1
        have hline:=sizeLine_eq
        refine ⟨_,rfl,_,rfl,q,_,rfl,DGet.k (k:=.inl t) (hq1 A1),_,rfl,?_⟩
        rw [val_akv]
        by_cases c:t∈A1
        · rw [if_pos c] at e1 ⊢
          exact ⟨A1,_,rfl,rfl,nd1,iv1,e1⟩
        rw [if_neg c] at e1 ⊢
        refine ⟨_,rfl,_,rfl,q,_,rfl,DPut.k (k:=.inl t) (v:=.bl true) (hq1 A1) (by rw [List.length_map]; omega),?_⟩
        rw [put_akv c,show upd (hp2 H p q T A1) q (.dK ((A1++[t]).map akv))=hp2 H p q T (A1++[t]) from hp2_putA]
        have nd2:(A1++[t]).Nodup:=List.nodup_append.mpr ⟨nd1,by simp,fun a ha b hb=>by
          rw [List.mem_singleton.mp hb]
          exact fun z=>c (z ▸ ha)⟩
        have iv2:∀ s∈A1++[t],s∈W:=fun s hs=>(List.mem_append.mp hs).elim (iv1 s) fun z=>by rw [List.mem_singleton.mp z]; exact htW
        refine ⟨_,rfl,_,rfl,p,_,rfl,DGet.k (k:=.inl t) (hp1 T (A1++[t])),_,rfl,?_⟩
        rw [val_dkv]
        cases g:getZ T t with
        | none =>
          rw [g] at e1
          cases e1
          refine ⟨_,rfl,_,rfl,_,rfl,p,_,rfl,DPut.k (k:=.inl t) (v:=.int x) (hp1 T (A1++[t])) (by rw [List.length_map]; omega),?_⟩
          rw [put_dkv,show upd (hp2 H p q T (A1++[t])) p (.dK ((putZ T t x).map dkv))=hp2 H p q (putZ T t x) (A1++[t]) from hp2_putT hne]
          exact hQ
        | some u =>
          rw [g] at e1
          dsimp only at e1
          have hu:=hT t u g
          have hG:DGet (hp2 H p q T (A1++[t])) p (.int t) (some (.int u)):=by
            have:=DGet.k (k:=.inl t) (hp1 T (A1++[t]))
            rw [val_dkv,g] at this
            exact this
          have hO:OffAt (hp2 H p q T (A1++[t])) po off m:=⟨as,al,m1,hlst _ _ hpo,fun y c hc=>⟨hlst _ _ (hrow y c hc).1,(hrow y c hc).2⟩⟩
          obtain ⟨b1,T1,A2,e2⟩:∃ b1 T1 A2,takeO off n u T (A1++[t])=some (b1,T1,A2):=by
            cases z:takeO off n u T (A1++[t]) with
            | none=>rw [z] at e1; cases e1
            | some r=>exact ⟨r.1,r.2.1,r.2.2,rfl⟩
          obtain ⟨k1,k2⟩:=takeO_fact n u T _ _ _ _ e2
          obtain ⟨k3,k4⟩:=takeO_nd hoff n u T _ _ _ _ e2 nd2 iv2
          rw [e2] at e1
          refine ⟨_,rfl,_,rfl,_,rfl,p,_,rfl,hG,_,rfl,_,rfl,?_⟩
          refine ⟨po,p,q,off,m,W,u,T,A1++[t],b1,T1,A2,rfl,hO,hp1 T _,hq1 _,hne,hu.1,hu.2,hT,by omega,nd2,iv2,hoff,hWl,e2,b1,rfl,?_⟩
          rw [hp2_hp2 hne]
          cases b1 with
          | true =>
            cases e1
            refine ⟨_,rfl,_,rfl,_,rfl,p,_,rfl,DPut.k (k:=.inl t) (v:=.int x) (hp1 T1 A') (by rw [List.length_map]; omega),?_⟩
            rw [put_dkv,show upd (hp2 H p q T1 A') p (.dK ((putZ T1 t x).map dkv))=hp2 H p q (putZ T1 t x) A' from hp2_putT hne]
            exact hQ
          | false =>
            have:=k1 rfl
            subst this
            exact ⟨A2,_,rfl,rfl,k3,k4,e1⟩
      · refine .inl ⟨⟨_,(.inl (hlst T A1 ha)),by rw [List.length_map]; omega⟩,?_⟩
        have:(off x).drop i=[]:=List.drop_eq_nil_of_le (by omega)
        rw [this] at e1
        cases e1
        exact hQ
theorem ok_taker_of_each (T:Txt K mg ad):FnOk P w K mg base CX0 16 ad.f_taker_of_each ad.d_taker_of_each ["offered"] (spD .l K [false] F_taker_of_each) :=
  Fun.ok (N:=["offered", "takers", "taker"]) T.F_taker_of_each sc_taker_of_each (fun vs H Q E h=>by
    obtain ⟨Z,ds,d,hz,a,_⟩:=h
    rw [a.len.1]
    rfl) fun cdv A outer s H vs Q E hr h=>by
    refine ⟨_,(pss_cons (ps_set (i:=1) sc_taker_of_each.nd rfl (Or.inl rfl) pe_dnewK)
 (pss_cons (ps_for PassesOwn.never rfl (pi_range1 rfl T.z_range (pa_cons (pe_callB (call_lenK (K:=K) rfl) rfl T.z_len bt_len (pa_cons (pv 0) pa_nil)) pa_nil)) (pg_name (i:=2) sc_taker_of_each.nd rfl (Or.inl rfl))
 (pss_one (ps_expr (pe_call (ok_take T.F_take_one T.b_take_one T.m_take_one 14 (by decide)) (hr.mono (by decide)) rfl T.m_take_one T.F_take_one.kp T.b_take_one .nil pass0 (pa_cons (pv 0) (pa_cons (pv 2) (pa_cons (pv 1) (pa_cons pe_dnewK pa_nil))))))))
 (pss_one (ps_ret (pv 1))))),?_⟩
    obtain ⟨Z,ds,d,hz,ar,hF,hQ⟩:=h
    obtain ⟨R,T2,rfl,ok,eT,rfl⟩:=F_taker_some hF
    obtain ⟨hR,hrl,W,hW,hRW⟩:=ok
    obtain ⟨v,rfl,iv⟩:∃ v,vs=[v]∧Is K H No v (.lst (R.map fun r=>D.lst (r.map D.int))):=by
      cases ar with
      | any i r=>cases r; exact ⟨_,rfl,i⟩
    cases iv with
    | @lst po us _ hz1 hpo hl il =>
    have hline:=sizeLine_eq
    have hul:us.length=R.length:=by rw [il.length,List.length_map]
    have hrow:∀ (x:Nat) (u:V),us[x]?=some u→∃ a,u=.ref a∧Rd H a (.lst ((offOf R (x:Int)).map V.int))∧(offOf R (x:Int)).length≤1000:=by
      intro x u hu
      obtain ⟨d,hd,i1⟩:=il.getv hu
      rw [List.getElem?_map] at hd
      obtain ⟨r,hr,rfl⟩:=Option.map_eq_some_iff.mp hd
      have eo:offOf R (x:Int)=r:=by
        unfold offOf
        rw [if_pos (by omega),Int.toNat_natCast,List.getD_eq_getElem?_getD,hr]
        rfl
      rw [eo]
      cases i1 with
      | lst hz2 hp2 hl2 il2 =>
        rw [IsL.ints il2] at hp2
        exact ⟨_,rfl,hp2,hrl r (List.mem_of_getElem? hr)⟩
    have has:∃ as:List Addr,us=as.map V.ref:=by
      have:∀ l:List V,(∀ u∈l,∃ a,u=V.ref a)→∃ as:List Addr,l=as.map V.ref:=by
        intro l
        induction l with
        | nil=>intro _; exact ⟨[],rfl⟩
        | cons u l ih =>
          intro h
          obtain ⟨a,rfl⟩:=h u List.mem_cons_self
          obtain ⟨as,rfl⟩:=ih fun u hu=>h u (List.mem_cons_of_mem _ hu)
          exact ⟨a::as,rfl⟩
      refine this us fun u hu=>?_
      obtain ⟨x,hx⟩:=List.getElem?_of_mem hu
      obtain ⟨a,e,_⟩:=hrow x u hx
      exact ⟨a,e⟩
    obtain ⟨as,rfl⟩:=has
    rw [List.length_map] at hul
    have hO:∀ {H':Hp},Same H H'→OffAt H' po (offOf R) R.length:=fun {H'} s=>by
      have rd:∀ {a:Addr} {o:HO},Rd H a o→Rd H' a o:=fun {a o} h=>h.elim (fun h=>.inl (s _ _ h)) fun ⟨q,h⟩=>.inr ⟨q,s _ _ h⟩
      refine ⟨as,hul,by omega,rd hpo,fun x a hx=>?_⟩
      obtain ⟨b,e,h1,h2⟩:=hrow x (.ref a) (by rw [List.getElem?_map,hx]; rfl)
      cases e
      exact ⟨rd h1,h2⟩
    have hoff:∀ x t,t∈offOf R x→t∈W:=fun x t h=>let ⟨r,hr,ht⟩:=offOf_mem h; hRW r hr t ht
    intro p hp
    have hs1:Same H (upd H p (.dK [])):=L2.same_new hp
    have rd:∀ {H':Hp} {a:Addr} {o:HO},Same H H'→Rd H a o→Rd H' a o:=fun {H' a o} s h=>h.elim (fun h=>.inl (s _ _ h)) fun ⟨q,h⟩=>.inr ⟨q,s _ _ h⟩
    refine ⟨_,rfl,.ref po,R.length,rfl,.inl ⟨_,.inl (rd hs1 hpo),by rw [List.length_map,hul]⟩,(R.length:Int),rfl,by omega,by omega,?_⟩
    rw [Int.toNat_natCast]
    refine ⟨fun i m σ' H'=>∃ (T1:Tk) (v2:Option V),m=R.length-i∧i≤R.length∧σ'=[some (.ref po),some (.ref p),v2]∧Same H H'∧H' p=some (tkO T1)∧T1.length≤14*i∧(∀ t u,getZ T1 t=some u→0≤u∧u<R.length)∧takeAll (offOf R) 14 ((rgI R.length).drop i) T1=some T2,
      ⟨_,[],none,rfl,Nat.zero_le _,rfl,hs1,upd_same,Nat.zero_le _,(fun t u z=>by cases z),eT⟩,?_⟩
    rintro i mm σ2 H2 ⟨T1,v2,rfl,hi,rfl,s2,hp2',hl2,hv2,e2⟩
    by_cases hlt:i<R.length
    · refine .inr ⟨hlt,fun σ' H'=>∃ (T1:Tk) (v2:Option V),σ'=[some (.ref po),some (.ref p),v2]∧Same H H'∧H' p=some (tkO T1)∧T1.length≤14*(i+1)∧(∀ t u,getZ T1 t=some u→0≤u∧u<R.length)∧takeAll (offOf R) 14 ((rgI R.length).drop (i+1)) T1=some T2,fun σ' H' ⟨T3,v3,h1,h2,h3,h4,h5,h6⟩=>⟨_,by omega,T3,v3,rfl,hlt,h1,h2,h3,h4,h5,h6⟩,?_⟩
      rintro y H3 ⟨rfl,rfl⟩
      rw [show (0:Int)+(i:Int)=(i:Int) by omega]
      rw [rgI_drop hlt] at e2
      unfold takeAll at e2
      split at e2
      · rename_i b T' A' e3
        refine ⟨_,rfl,_,rfl,_,rfl,fun q hq=>?_⟩
        have hpq:p≠q:=fun z=>by rw [z,hq] at hp2'; cases hp2'
        have s3:Same H3 (upd H3 q (.dK [])):=L2.same_new hq
        refine ⟨po,p,q,offOf R,R.length,W,(i:Int),T1,[],b,T',A',rfl,hO (s2.trans s3),s3 _ _ hp2',upd_same,hpq,by omega,by omega,hv2,by omega,List.nodup_nil,(fun t h=>by cases h),hoff,hW,e3,?_⟩
        have:=(takeO_fact 14 _ T1 _ _ _ _ e3).2
        refine ⟨T',_,rfl,fun a u e=>?_,hp2_p hpq,by omega,fun t u hu=>?_,e2⟩
        · rw [hp2_o (fun z=>by rw [z,hp] at e; cases e) (fun z=>by have:=s2 _ _ e; rw [z,hq] at this; cases this)]
          exact s3 _ _ (s2 _ _ e)
        · rcases takeO_vals 14 _ T1 _ _ _ _ e3 t u hu with z | ⟨r,z⟩
          · rw [z]; exact ⟨by omega,by omega⟩
          · exact hv2 r u z
      · cases e2
    · have:(rgI R.length).drop i=[]:=List.drop_eq_nil_of_le (by rw [rgI_len]; omega)
      rw [this] at e2
      cases e2
      exact .inl ⟨by show R.length≤i; omega,_,rfl,hQ _ _ s2 (.inr ⟨p,T2,rfl,rfl,hp,hp2',by omega⟩)⟩
theorem ok_urgent_pairs (T:Txt K mg ad):FnOk P w K mg base CX0 17 ad.f_urgent_pairs ad.d_urgent_pairs ["left", "rest"] (spD .v K [false,false] F_urgent_pairs):=by
  rw [F_urgent_pairs_def]
  exact Fun.okD (N:=["left", "rest", "takers", "benches", "pairs"]) T.F_urgent_pairs sc_urgent_pairs [false,false] rfl B_urgent_pairs fun cdv A outer s H E hr=>⟨_,
 (pss_cons (ps_set (i:=2) sc_urgent_pairs.nd rfl (Or.inr rfl) (pe_call (ok_taker_of_each T) (hr.mono (by decide)) rfl T.m_taker_of_each T.F_taker_of_each.kp T.b_taker_of_each .nil pass0 (pa_cons (pe_call (ok_offers T) (hr.mono (by decide)) rfl T.m_offers T.F_offers.kp T.b_offers .nil pass0 (pa_cons (pv 0) (pa_cons (pv 1) pa_nil))) pa_nil)))
 (pss_cons (ps_set (i:=3) sc_urgent_pairs.nd rfl (Or.inl rfl) (pe_callB (call_lenK (K:=K) rfl) rfl T.z_len bt_len (pa_cons (pe_ix (ix_seqK (K:=K) rfl) (pv 0) pe_int (fun _ _=>rfl)) pa_nil)))
 (pss_cons (ps_cN1 (i:=4) sc_urgent_pairs.nd rfl rfl rfl (pi_range1 rfl T.z_range (pa_cons (pv 3) pa_nil)) (ts:=["bench"]) (zs:=["takers", "left"]) (k:=1) (is:=[2,0]) rfl (.cons rfl (.cons rfl .nil)) (.cons rfl (Or.inl rfl) rfl (by first | exact Or.inl rfl | exact Or.inr rfl) (.cons rfl (Or.inl rfl) rfl (by first | exact Or.inl rfl | exact Or.inr rfl) .nil)) rfl (low_name (by decide)) (fun _ _ _ _ _=>(pgb (by decide +kernel) rfl rfl)) (fun _ _ _ _ _=>(pt_cmpR op_lt (pe_dget (hu_of hr) (pv 1) (pv 0) (fun _ _=>rfl)) (pe_callB (call_lenK (K:=K) rfl) rfl T.z_len bt_len (pa_cons (pv 2) pa_nil)) (nomark _))) (fun _ _ _ _ _=>(pe_lst (pa_cons (pe_dget (hu_of hr) (pv 1) (pv 0) (fun _ _=>rfl)) (pa_cons (pv 0) pa_nil)))) rfl (by decide +kernel) rfl (by decide +kernel))
 (pss_one (ps_ret (pe_callB (call_srtL (K:=K) rfl rfl hr) rfl T.z_sorted bt_sorted (pa_cons (pv 4) pa_nil))))))),
 (ss_seq (ss_set (si_call (sa_any (SemI.b (si_call (sa_any (sb_var 0) (sa_any (sb_var 1) sa_nil)))) sa_nil)))
 (ss_seq (ss_set (si_len (sb_ix (sb_var 0) (SemI.b si_int))))
 (ss_seq (ss_setC (SemF.l (sf_comp (m:=true) (k:=1) (cs:=[2,0]) (SemW.c (sw_range1 (sb_var 3))) (sg_name 0) (st_test (SemI.b (si_lt (SemI.b (si_getD (sb_var 1) (sb_var 0))) (SemI.b (si_len (sb_var 2)))))) (SemF.l (sf_lst (n:=2) (sa_own (si_getD (sb_var 1) (sb_var 0)) (sa_own (si_var 0) sa_nil)) (by decide))))))
 (ss_ret (SemF.l (sf_srtL (si_var 4)))))))⟩
theorem ok_phases (T:Txt K mg ad):FnOk P w K mg base CX0 18 ad.f_phases ad.d_phases ["table"] (spD .v K [false] F_phases):=by
  rw [F_phases_def]
  exact Fun.okD (N:=["table", "left", "rest", "told", "pairs", "hours", "hand", "bench"]) T.F_phases sc_phases [false] rfl B_phases fun cdv A outer s H E hr=>⟨_,
 (pss_cons (ps_cN0 (i:=1) sc_phases.nd rfl rfl rfl (pi_listK (K:=K) rfl (pv 0)) (ts:=["row"]) (zs:=[]) (k:=1) (is:=[]) rfl .nil .nil rfl (low_name (by decide)) (fun _ _ _ _ _=>(pgb (by decide +kernel) rfl rfl)) (fun _ _ _ _ _=>(pe_callTy (call_list_ofK (K:=K) rfl) rfl T.z_list bt_list (pa_cons (pv 0) pa_nil))) rfl (by decide +kernel) rfl (by decide +kernel))
 (pss_cons (ps_set (i:=2) sc_phases.nd rfl (Or.inl rfl) (pe_call (ok_open_end T) (hr.mono (by decide)) rfl T.m_open_end T.F_open_end.kp T.b_open_end .nil pass0 (pa_cons (pv 0) pa_nil)))
 (pss_cons (ps_set (i:=3) sc_phases.nd rfl (Or.inl rfl) (pe_lst pa_nil))
 (pss_cons (ps_while PassesOwn.never (pt_cmpR op_gt (pv 2) pe_int (nomark _))
 (pss_cons (ps_set (i:=4) sc_phases.nd rfl (Or.inl rfl) (pe_call (ok_urgent_pairs T) (hr.mono (by decide)) rfl T.m_urgent_pairs T.F_urgent_pairs.kp T.b_urgent_pairs .nil pass0 (pa_cons (pv 1) (pa_cons (pv 2) pa_nil))))
 (pss_cons (ps_set (i:=5) sc_phases.nd rfl (Or.inl rfl) (pe_call (ok_longest_hours T) (hr.mono (by decide)) rfl T.m_longest_hours T.F_longest_hours.kp T.b_longest_hours .nil pass0 (pa_cons (pv 1) (pa_cons (pv 2) (pa_cons (pv 4) pa_nil)))))
 (pss_cons (ps_for PassesOwn.never rfl (pi_listK (K:=K) rfl (pv 4)) (pg_seqK (K:=K) rfl rfl (pgs_cons (pg_name (i:=6) sc_phases.nd rfl (Or.inl rfl)) (pgs_cons (pg_name (i:=7) sc_phases.nd rfl (Or.inl rfl)) pgs_nil)))
 (pss_one (ps_augS (pe_ix (ix_seqK (K:=K) rfl) (pv 1) (pv 6) (fun _ _=>rfl)) (pv 7) (get_listK (K:=K) rfl) (pv 5) ip_sub set_list)))
 (pss_cons (ps_aug (i:=2) sc_phases.nd rfl (Or.inl rfl) (pv 5) ip_sub)
 (pss_one (ps_expr (pe_bm PySem.F.plainAttrs_list PySem.F.slot_list_append PySem.F.type_list_append mt_append (pv 3) (pa_cons (pe_lst (pa_cons (pv 5) (pa_cons (pv 4) pa_nil))) pa_nil)))))))))
 (pss_one (ps_ret (pv 3))))))),
 (ss_seq (ss_setMC (sm_comp (m:=false) (k:=1) (cs:=[]) (swc_listB (sb_var 0)) (sg_name 0) st_true (sf_listB (sb_var 0))))
 (ss_seq (ss_set (si_call (sa_any (sb_var 0) sa_nil)))
 (ss_seq (ss_setO (sf_lst (n:=0) sa_nil (by decide)))
 (ss_seq (ss_while (st_test (SemI.b (si_gt (sb_var 2) (SemI.b si_int))))
 (ss_seq (ss_set (si_call (sa_any (sb_var 1) (sa_any (sb_var 2) sa_nil))))
 (ss_seq (ss_set (si_call (sa_any (sb_var 1) (sa_any (sb_var 2) (sa_any (sb_var 4) sa_nil)))))
 (ss_seq (ss_for (m:=true) (sw_list (si_var 4)) (sg_un (sgs_cons (sg_name 6) (sgs_cons (sg_name 7) sgs_nil)))
 (ss_aug2 (sb_var 6) (sb_var 7) (sb_var 5)))
 (ss_seq (ss_aug (sb_var 5))
 (ss_app (SemF.l (sf_lst (n:=2) (sa_own (si_var 5) (sa_own (si_var 4) sa_nil)) (by decide)))))))))
 (ss_frz 3 (ss_ret (si_var 3)))))))⟩
theorem ok_l_whole (T:Txt K mg ad):FnOk P w K mg base CX0 1 ad.f_l_whole ad.d_l_whole ["_law_found"] (spD .v K [false] F_l_whole):=by
  rw [F_l_whole_def]
  exact Fun.okD (N:=["_law_found"]) T.F_l_whole sc_l_whole [false] rfl B_l_whole fun cdv A outer s H E hr=>⟨_,
 (pss_one (ps_ret (pe_and (pe_callB (call_isiK (K:=K) rfl) rfl T.z_isinstance bt_isinstance (pa_cons (pv 0) (pa_cons (pe_bltn (v:=.ty "int") rfl T.z_int bt_int rfl) pa_nil))) (pe_one (pe_not (pe_callB (call_isiK (K:=K) rfl) rfl T.z_isinstance bt_isinstance (pa_cons (pv 0) (pa_cons (pe_bltn (v:=.ty "bool") rfl T.z_bool bt_bool rfl) pa_nil)))))))),
 (ss_ret (si_andV (SemI.b (si_isi (n := "int") (sb_var 0))) (si_notV (SemI.b (si_isi (n := "bool") (sb_var 0))))))⟩
theorem ok_l_cell_at (T:Txt K mg ad):FnOk P w K mg base CX0 1 ad.f_l_cell_at ad.d_l_cell_at ["_law_script", "_law_k"] (spD .v K [false,false] F_l_cell_at):=by
  rw [F_l_cell_at_def]
  exact Fun.okD (N:=["_law_script", "_law_k"]) T.F_l_cell_at sc_l_cell_at [false,false] rfl B_l_cell_at fun cdv A outer s H E hr=>⟨_,
 (pss_cons (ps_if (pt_cmpR op_lt (pv 1) (pe_callB (call_lenK (K:=K) rfl) rfl T.z_len bt_len (pa_cons (pv 0) pa_nil)) (nomark _))
 (pss_one (ps_ret (pe_ix (ix_seqK (K:=K) rfl) (pv 0) (pv 1) (fun _ _=>rfl))))
 pss_nil)
 (pss_one (ps_ret pe_int))),
 (ss_seq (ss_if (st_test (SemI.b (si_lt (sb_var 1) (SemI.b (si_len (sb_var 0))))))
 (ss_ret (SemB.i (sb_ix (sb_var 0) (sb_var 1))))
 ss_pass)
 (ss_ret si_int))⟩
theorem ok_l_mixed (T:Txt K mg ad):FnOk P w K mg base CX0 1 ad.f_l_mixed ad.d_l_mixed ["_law_cell", "_law_k"] (spD .v K [false,false] F_l_mixed):=by
  rw [F_l_mixed_def]
  exact Fun.okD (N:=["_law_cell", "_law_k", "_law_number"]) T.F_l_mixed sc_l_mixed [false,false] rfl B_l_mixed fun cdv A outer s H E hr=>⟨_,
 (pss_cons (ps_set (i:=2) sc_l_mixed.nd rfl (Or.inl rfl) (pe_op op_mod (pe_op op_add (pe_op op_add (pe_op op_mulB (pv 0) pe_int) (pe_op op_mulB (pe_op op_mulB (pv 1) (pv 1)) pe_int)) pe_int) pe_int))
 (pss_one (ps_ret (pe_op op_mod (pe_op op_mulB (pv 2) (pv 2)) pe_int)))),
 (ss_seq (ss_set (si_mod (SemI.b (si_add (SemI.b (si_add (SemI.b (si_mul (sb_var 0) (SemI.b si_int))) (SemI.b (si_mul (SemI.b (si_mul (sb_var 1) (sb_var 1))) (SemI.b si_int))))) (SemI.b si_int))) (SemI.b si_int)))
 (ss_ret (si_mod (SemI.b (si_mul (sb_var 2) (sb_var 2))) (SemI.b si_int))))⟩
theorem ok_l_numbers (T:Txt K mg ad):FnOk P w K mg base CX0 2 ad.f_l_numbers ad.d_l_numbers ["_law_script"] (spD .v K [false] F_l_numbers):=by
  rw [F_l_numbers_def]
  exact Fun.okD (N:=["_law_script", "_law_numbers_here", "_law_k"]) T.F_l_numbers sc_l_numbers [false] rfl B_l_numbers fun cdv A outer s H E hr=>⟨_,
 (pss_cons (ps_cN0 (i:=1) sc_l_numbers.nd rfl rfl rfl (pi_range1 rfl T.z_range (pa_cons pe_int pa_nil)) (ts:=["_law_k"]) (zs:=["_law_script"]) (k:=1) (is:=[0]) rfl (.cons rfl .nil) (.cons rfl (Or.inl rfl) rfl (by first | exact Or.inl rfl | exact Or.inr rfl) .nil) rfl (low_name (by decide)) (fun _ _ _ _ _=>(pgb (by decide +kernel) rfl rfl)) (fun _ _ _ _ _=>(pe_call (ok_l_mixed T) (hr.mono (by decide)) rfl T.m_l_mixed T.F_l_mixed.kp T.b_l_mixed .nil pass0 (pa_cons (pe_call (ok_l_cell_at T) (hr.mono (by decide)) rfl T.m_l_cell_at T.F_l_cell_at.kp T.b_l_cell_at .nil pass0 (pa_cons (pv 1) (pa_cons pe_int pa_nil))) (pa_cons (pe_op op_add pe_int (pv 0)) pa_nil)))) rfl (by decide +kernel) rfl (by decide +kernel))
 (pss_cons (ps_for PassesOwn.never rfl (pi_range2 rfl T.z_range (pa_cons pe_int (pa_cons (pe_callB (call_min2 rfl) rfl T.z_min bt_min (pa_cons pe_int (pa_cons (pe_callB (call_lenK (K:=K) rfl) rfl T.z_len bt_len (pa_cons (pv 0) pa_nil)) pa_nil))) pa_nil))) (pg_name (i:=2) sc_l_numbers.nd rfl (Or.inl rfl))
 (pss_one (ps_asg (pe_call (ok_l_mixed T) (hr.mono (by decide)) rfl T.m_l_mixed T.F_l_mixed.kp T.b_l_mixed .nil pass0 (pa_cons (pe_op op_add (pe_ix (ix_seqK (K:=K) rfl) (pv 1) (pe_op op_mod (pv 2) pe_int) (fun _ _=>rfl)) (pe_ix (ix_seqK (K:=K) rfl) (pv 0) (pv 2) (fun _ _=>rfl))) (pa_cons (pv 2) pa_nil))) (pg_sub (pv 1) (pe_op op_mod (pv 2) pe_int) set_list))))
 (pss_one (ps_ret (pv 1))))),
 (ss_seq (ss_setOC (sf_comp (m:=true) (k:=1) (cs:=[0]) (SemW.c (sw_range1 (SemI.b si_int))) (sg_name 0) st_true (si_call (sa_any (SemI.b (si_call (sa_any (sb_var 1) (sa_any (SemI.b si_int) sa_nil)))) (sa_any (SemI.b (si_add (SemI.b si_int) (sb_var 0))) sa_nil)))))
 (ss_seq (ss_for (m:=true) (sw_range2 (SemI.b si_int) (SemI.b (si_min2 (SemI.b si_int) (SemI.b (si_len (sb_var 0)))))) (sg_name 2)
 (ss_put (si_call (sa_any (SemI.b (si_add (sb_ix (sb_var 1) (SemI.b (si_mod (sb_var 2) (SemI.b si_int)))) (sb_ix (sb_var 0) (sb_var 2)))) (sa_any (sb_var 2) sa_nil))) (SemI.b (si_mod (sb_var 2) (SemI.b si_int)))))
 (ss_frz 1 (ss_ret (si_var 1)))))⟩
theorem ok_l_size (T:Txt K mg ad):FnOk P w K mg base CX0 1 ad.f_l_size ad.d_l_size ["_law_cell"] (spD .v K [false] F_l_size):=by
  rw [F_l_size_def]
  exact Fun.okD (N:=["_law_cell"]) T.F_l_size sc_l_size [false] rfl B_l_size fun cdv A outer s H E hr=>⟨_,
 (pss_cons (ps_if (pt_cmpR (op_eqD (K:=K) hr.units) (pe_op op_mod (pv 0) pe_int) pe_int (nomark _))
 (pss_one (ps_ret pe_int))
 pss_nil)
 (pss_one (ps_ret (pe_op op_mod (pe_op op_fdivB (pv 0) pe_int) pe_int)))),
 (ss_seq (ss_if (st_test (SemI.b (si_eq (neg:=false) (SemI.b (si_mod (sb_var 0) (SemI.b si_int))) (SemI.b si_int))))
 (ss_ret si_int)
 ss_pass)
 (ss_ret (si_mod (SemI.b (si_fdiv (sb_var 0) (SemI.b si_int))) (SemI.b si_int))))⟩
theorem ok_l_hours (T:Txt K mg ad):FnOk P w K mg base CX0 2 ad.f_l_hours ad.d_l_hours ["_law_number", "_law_mode"] (spD .v K [false,false] F_l_hours):=by
  rw [F_l_hours_def]
  exact Fun.okD (N:=["_law_number", "_law_mode"]) T.F_l_hours sc_l_hours [false,false] rfl B_l_hours fun cdv A outer s H E hr=>⟨_,
 (pss_cons (ps_if (pt_cmpR (op_eqD (K:=K) hr.units) (pv 1) pe_int (nomark _))
 (pss_one (ps_ret (pe_op op_mod (pv 0) pe_int)))
 pss_nil)
 (pss_cons (ps_if (pt_cmpR (op_eqD (K:=K) hr.units) (pv 1) pe_int (nomark _))
 (pss_one (ps_ret (pe_op op_mulB (pe_op op_mod (pe_op op_fdivB (pv 0) pe_int) pe_int) (pe_callTy call_int1 rfl T.z_int bt_int (pa_cons (pe_cmpR op_lt (pe_op op_mod (pv 0) pe_int) pe_int (nomark _)) pa_nil)))))
 pss_nil)
 (pss_cons (ps_if (pt_cmpR (op_eqD (K:=K) hr.units) (pv 1) pe_int (nomark _))
 (pss_one (ps_ret (pe_op op_add (pe_op op_mulB (pv 0) (pe_op op_pow pe_int pe_int)) (pe_call (ok_l_mixed T) (hr.mono (by decide)) rfl T.m_l_mixed T.F_l_mixed.kp T.b_l_mixed .nil pass0 (pa_cons (pv 0) (pa_cons pe_int pa_nil))))))
 pss_nil)
 (pss_one (ps_ret (pe_op op_mulB (pe_op op_mod (pv 0) pe_int) (pe_op op_pow pe_int pe_int))))))),
 (ss_seq (ss_if (st_test (SemI.b (si_eq (neg:=false) (sb_var 1) (SemI.b si_int))))
 (ss_ret (si_mod (sb_var 0) (SemI.b si_int)))
 ss_pass)
 (ss_seq (ss_if (st_test (SemI.b (si_eq (neg:=false) (sb_var 1) (SemI.b si_int))))
 (ss_ret (si_mul (SemI.b (si_mod (SemI.b (si_fdiv (sb_var 0) (SemI.b si_int))) (SemI.b si_int))) (SemI.b (si_intF (SemI.b (si_lt (SemI.b (si_mod (sb_var 0) (SemI.b si_int))) (SemI.b si_int)))))))
 ss_pass)
 (ss_seq (ss_if (st_test (SemI.b (si_eq (neg:=false) (sb_var 1) (SemI.b si_int))))
 (ss_ret (si_add (SemI.b (si_mul (sb_var 0) (SemI.b (si_pow (SemI.b si_int) (SemI.b si_int))))) (SemI.b (si_call (sa_any (sb_var 0) (sa_any (SemI.b si_int) sa_nil))))))
 ss_pass)
 (ss_ret (si_mul (SemI.b (si_mod (sb_var 0) (SemI.b si_int))) (SemI.b (si_pow (SemI.b si_int) (SemI.b si_int))))))))⟩
theorem ok_l_table (T:Txt K mg ad):FnOk P w K mg base CX0 3 ad.f_l_table ad.d_l_table ["_law_script"] (spD .v K [false] F_l_table):=by
  rw [F_l_table_def]
  exact Fun.okD (N:=["_law_script", "_law_numbers_here", "_law_cell", "_law_hands", "_law_many", "_law_table_here", "_law_hand", "_law_row", "_law_bench", "_law_idle"]) T.F_l_table sc_l_table [false] rfl B_l_table fun cdv A outer s H E hr=>⟨_,
 (pss_cons (ps_set (i:=1) sc_l_table.nd rfl (Or.inl rfl) (pe_call (ok_l_numbers T) (hr.mono (by decide)) rfl T.m_l_numbers T.F_l_numbers.kp T.b_l_numbers .nil pass0 (pa_cons (pv 0) pa_nil)))
 (pss_cons (ps_set (i:=2) sc_l_table.nd rfl (Or.inl rfl) (pe_call (ok_l_cell_at T) (hr.mono (by decide)) rfl T.m_l_cell_at T.F_l_cell_at.kp T.b_l_cell_at .nil pass0 (pa_cons (pv 0) (pa_cons pe_int pa_nil))))
 (pss_cons (ps_set (i:=3) sc_l_table.nd rfl (Or.inl rfl) (pe_call (ok_l_size T) (hr.mono (by decide)) rfl T.m_l_size T.F_l_size.kp T.b_l_size .nil pass0 (pa_cons (pe_call (ok_l_cell_at T) (hr.mono (by decide)) rfl T.m_l_cell_at T.F_l_cell_at.kp T.b_l_cell_at .nil pass0 (pa_cons (pv 0) (pa_cons pe_int pa_nil))) pa_nil)))
 (pss_cons (ps_set (i:=4) sc_l_table.nd rfl (Or.inl rfl) (pe_op op_mulB (pe_call (ok_l_size T) (hr.mono (by decide)) rfl T.m_l_size T.F_l_size.kp T.b_l_size .nil pass0 (pa_cons (pe_call (ok_l_cell_at T) (hr.mono (by decide)) rfl T.m_l_cell_at T.F_l_cell_at.kp T.b_l_cell_at .nil pass0 (pa_cons (pv 0) (pa_cons pe_int pa_nil))) pa_nil)) (pe_callTy call_int1 rfl T.z_int bt_int (pa_cons (pe_cmpR op_gt (pv 3) pe_int (nomark _)) pa_nil))))
 (pss_cons (ps_set (i:=5) sc_l_table.nd rfl (Or.inl rfl) (pe_lst pa_nil))
 (pss_cons (ps_for PassesOwn.never rfl (pi_range1 rfl T.z_range (pa_cons (pv 3) pa_nil)) (pg_name (i:=6) sc_l_table.nd rfl (Or.inl rfl))
 (pss_cons (ps_set (i:=7) sc_l_table.nd rfl (Or.inl rfl) (pe_lst pa_nil))
 (pss_cons (ps_for PassesOwn.never rfl (pi_range1 rfl T.z_range (pa_cons (pv 4) pa_nil)) (pg_name (i:=8) sc_l_table.nd rfl (Or.inl rfl))
 (pss_cons (ps_set (i:=9) sc_l_table.nd rfl (Or.inl rfl) (pe_or (pe_cmpR (op_eqD (K:=K) hr.units) (pv 6) (pe_op op_mod (pe_op op_fdivB (pv 2) pe_int) pe_int) (nomark _)) (pe_one (pe_cmpR (op_eqD (K:=K) hr.units) (pv 8) (pe_op op_mod (pe_op op_fdivB (pv 2) pe_int) pe_int) (nomark _)))))
 (pss_one (ps_expr (pe_bm PySem.F.plainAttrs_list PySem.F.slot_list_append PySem.F.type_list_append mt_append (pv 7) (pa_cons (pe_op op_mulB (pe_call (ok_l_hours T) (hr.mono (by decide)) rfl T.m_l_hours T.F_l_hours.kp T.b_l_hours .nil pass0 (pa_cons (pe_ix (ix_seqK (K:=K) rfl) (pv 1) (pe_op op_add (pe_op op_mulB pe_int (pv 6)) (pv 8)) (fun _ _=>rfl)) (pa_cons (pe_op op_mod (pv 2) pe_int) pa_nil))) (pe_callTy call_int1 rfl T.z_int bt_int (pa_cons (pe_not (pv 9)) pa_nil))) pa_nil))))))
 (pss_one (ps_expr (pe_bm PySem.F.plainAttrs_list PySem.F.slot_list_append PySem.F.type_list_append mt_append (pv 5) (pa_cons (pv 7) pa_nil)))))))
 (pss_one (ps_ret (pv 5))))))))),
 (ss_seq (ss_set (si_call (sa_any (sb_var 0) sa_nil)))
 (ss_seq (ss_set (si_call (sa_any (sb_var 0) (sa_any (SemI.b si_int) sa_nil))))
 (ss_seq (ss_set (si_call (sa_any (SemI.b (si_call (sa_any (sb_var 0) (sa_any (SemI.b si_int) sa_nil)))) sa_nil)))
 (ss_seq (ss_set (si_mul (SemI.b (si_call (sa_any (SemI.b (si_call (sa_any (sb_var 0) (sa_any (SemI.b si_int) sa_nil)))) sa_nil))) (SemI.b (si_intF (SemI.b (si_gt (sb_var 3) (SemI.b si_int)))))))
 (ss_seq (ss_setO (sf_lst (n:=0) sa_nil (by decide)))
 (ss_seq (ss_for (m:=true) (sw_range1 (sb_var 3)) (sg_name 6)
 (ss_seq (ss_setO (sf_lst (n:=0) sa_nil (by decide)))
 (ss_seq (ss_for (m:=true) (sw_range1 (sb_var 4)) (sg_name 8)
 (ss_seq (ss_set (si_orV (SemI.b (si_eq (neg:=false) (sb_var 6) (SemI.b (si_mod (SemI.b (si_fdiv (sb_var 2) (SemI.b si_int))) (SemI.b si_int))))) (si_eq (neg:=false) (sb_var 8) (SemI.b (si_mod (SemI.b (si_fdiv (sb_var 2) (SemI.b si_int))) (SemI.b si_int))))))
 (ss_app (si_mul (SemI.b (si_call (sa_any (sb_ix (sb_var 1) (SemI.b (si_add (SemI.b (si_mul (SemI.b si_int) (sb_var 6))) (sb_var 8)))) (sa_any (SemI.b (si_mod (sb_var 2) (SemI.b si_int))) sa_nil)))) (SemI.b (si_intF (SemI.b (si_notV (sb_var 9)))))))))
 (ss_frz 7 (ss_app (si_var 7))))))
 (ss_frz 5 (ss_ret (si_var 5)))))))))⟩
theorem ok_l_sums (T:Txt K mg ad):FnOk P w K mg base CX0 1 ad.f_l_sums ad.d_l_sums ["_law_table_here"] (spD .v K [false] F_l_sums):=by
  rw [F_l_sums_def]
  exact Fun.okD (N:=["_law_table_here", "_law_hands", "_law_many"]) T.F_l_sums sc_l_sums [false] rfl B_l_sums fun cdv A outer s H E hr=>⟨_,
 (pss_cons (ps_cN0 (i:=1) sc_l_sums.nd rfl rfl rfl (pi_listK (K:=K) rfl (pv 0)) (ts:=["_law_row"]) (zs:=[]) (k:=1) (is:=[]) rfl .nil .nil rfl (low_name (by decide)) (fun _ _ _ _ _=>(pgb (by decide +kernel) rfl rfl)) (fun _ _ _ _ _=>(pe_callB (call_sumK (K:=K) rfl rfl) rfl T.z_sum bt_sum (pa_cons (pv 0) pa_nil))) rfl (by decide +kernel) rfl (by decide +kernel))
 (pss_cons (ps_set (i:=2) sc_l_sums.nd rfl (Or.inl rfl) (pe_callB (call_max1K (K:=K) rfl rfl) rfl T.z_max bt_max (pa_cons (pe_op op_catR (pe_cN0 rfl (pi_listK (K:=K) rfl (pv 0)) (ts:=["_law_row"]) (zs:=[]) (k:=1) (is:=[]) rfl .nil .nil rfl (low_name (by decide)) (fun _ _ _ _ _=>(pgb (by decide +kernel) rfl rfl)) (fun _ _ _ _ _=>(pe_callB (call_lenK (K:=K) rfl) rfl T.z_len bt_len (pa_cons (pv 0) pa_nil))) rfl (by decide +kernel) rfl (by decide +kernel)) (pe_lst (pa_cons pe_int pa_nil))) pa_nil)))
 (pss_one (ps_ret (pe_tup (pa_cons (pv 1) (pa_cons (pe_cM0 rfl (pi_range1 rfl T.z_range (pa_cons (pv 2) pa_nil)) (ts:=["_law_bench"]) (zs:=["_law_table_here"]) (k:=1) (is:=[0]) rfl (.cons rfl .nil) (.cons rfl (Or.inl rfl) rfl (by first | exact Or.inl rfl | exact Or.inr rfl) .nil) rfl rfl rfl (low_name (by decide)) (fun _ _ _ _ _=>(pgbC (i:=0) (by decide +kernel) rfl (Or.inr rfl) (Or.inl rfl))) (fun _ _ _ _ _=>(pe_callB (call_sumK (K:=K) rfl rfl) rfl T.z_sum bt_sum (pa_cons (pe_cN0 rfl (pi_listK (K:=K) rfl (pv 1)) (ts:=["_law_row"]) (zs:=["_law_bench"]) (k:=1) (is:=[0]) rfl (.cons rfl .nil) (.cons rfl (by first | exact Or.inl rfl | exact Or.inr rfl) rfl (by first | exact Or.inl rfl | exact Or.inr rfl) .nil) rfl (low_name (by decide)) (fun _ _ _ _ _=>(pgb (by decide +kernel) rfl rfl)) (fun _ _ _ _ _=>(pe_ix (ix_seqK (K:=K) rfl) (pv 0) (pv 1) (fun _ _=>rfl))) rfl (by decide +kernel) rfl (by decide +kernel)) pa_nil))) rfl rfl (by decide +kernel)) pa_nil))))))),
 (ss_seq (ss_setC (SemF.l (sf_comp (m:=false) (k:=1) (cs:=[]) (swc_listB (sb_var 0)) (sg_name 0) st_true (si_sum (sb_var 0)))))
 (ss_seq (ss_set (si_max (SemI.b (SemF.l (sf_cat (SemF.l (sf_comp (m:=false) (k:=1) (cs:=[]) (swc_listB (sb_var 0)) (sg_name 0) st_true (si_len (sb_var 0)))) (SemF.l (sf_lst (n:=1) (sa_own si_int sa_nil) (by decide))))))))
 (ss_ret (si_tup (n:=2) (sa_own (si_var 1) (sa_own (SemF.l (sf_comp (m:=true) (k:=1) (cs:=[0]) (SemW.c (sw_range1 (sb_var 2))) (sg_name 0) st_true (si_sum (SemI.b (SemF.l (sf_comp (m:=false) (k:=1) (cs:=[0]) (swc_listB (sb_var 1)) (sg_name 0) st_true (SemB.i (sb_ix (sb_var 0) (sb_var 1))))))))) sa_nil)) (by decide)))))⟩
theorem ok_l_end (T:Txt K mg ad):FnOk P w K mg base CX0 2 ad.f_l_end ad.d_l_end ["_law_table_here"] (spD .v K [false] F_l_end):=by
  rw [F_l_end_def]
  exact Fun.okD (N:=["_law_table_here", "_law_found"]) T.F_l_end sc_l_end [false] rfl B_l_end fun cdv A outer s H E hr=>⟨_,
 (pss_cons (ps_set (i:=1) sc_l_end.nd rfl (Or.inl rfl) (pe_call (ok_l_sums T) (hr.mono (by decide)) rfl T.m_l_sums T.F_l_sums.kp T.b_l_sums .nil pass0 (pa_cons (pv 0) pa_nil)))
 (pss_one (ps_ret (pe_callB (call_max1K (K:=K) rfl rfl) rfl T.z_max bt_max (pa_cons (pe_op op_catR (pe_op op_catR (pe_ix (ix_seqK (K:=K) rfl) (pv 1) pe_int (fun _ _=>rfl)) (pe_ix (ix_seqK (K:=K) rfl) (pv 1) pe_int (fun _ _=>rfl))) (pe_lst (pa_cons pe_int pa_nil))) pa_nil))))),
 (ss_seq (ss_set (si_call (sa_any (sb_var 0) sa_nil)))
 (ss_ret (si_max (SemI.b (SemF.l (sf_cat (SemF.l (sf_cat (si_ix (si_var 1) (SemI.b si_int)) (si_ix (si_var 1) (SemI.b si_int)))) (SemF.l (sf_lst (n:=1) (sa_own si_int sa_nil) (by decide)))))))))⟩
theorem ok_l_two (T:Txt K mg ad):FnOk P w K mg base CX0 2 ad.f_l_two ad.d_l_two ["_law_pair", "_law_hands", "_law_many"] (spD .v K [false,false,false] F_l_two):=by
  rw [F_l_two_def]
  exact Fun.okD (N:=["_law_pair", "_law_hands", "_law_many"]) T.F_l_two sc_l_two [false,false,false] rfl B_l_two fun cdv A outer s H E hr=>⟨_,
 (pss_cons (ps_if (PW.pt (pw_or (pt_not (pt_truthK (K:=K) rfl (pe_callB (call_isiK (K:=K) rfl) rfl T.z_isinstance bt_isinstance (pa_cons (pv 0) (pa_cons (pe_bltn (v:=.ty "list") rfl T.z_list bt_list rfl) pa_nil))) (fun _=>rfl))) (pw_or (pt_cmpR (op_neD (K:=K) hr.units) (pe_callB (call_lenK (K:=K) rfl) rfl T.z_len bt_len (pa_cons (pv 0) pa_nil)) pe_int (nomark _)) (pw_or (pt_not (pt_truthK (K:=K) rfl (pe_call (ok_l_whole T) (hr.mono (by decide)) rfl T.m_l_whole T.F_l_whole.kp T.b_l_whole .nil pass0 (pa_cons (pe_ix (ix_seqK (K:=K) rfl) (pv 0) pe_int (fun _ _=>rfl)) pa_nil)) (fun _=>rfl))) (pw_or1 (pt_not (pt_truthK (K:=K) rfl (pe_call (ok_l_whole T) (hr.mono (by decide)) rfl T.m_l_whole T.F_l_whole.kp T.b_l_whole .nil pass0 (pa_cons (pe_ix (ix_seqK (K:=K) rfl) (pv 0) pe_int (fun _ _=>rfl)) pa_nil)) (fun _=>rfl))))))))
 (pss_one (ps_ret pe_bl))
 pss_nil)
 (pss_one (ps_ret (pe_and (pe_cmpR op_le pe_int (pe_ix (ix_seqK (K:=K) rfl) (pv 0) pe_int (fun _ _=>rfl)) (nomark _)) (pe_and (pe_cmpR op_lt (pe_ix (ix_seqK (K:=K) rfl) (pv 0) pe_int (fun _ _=>rfl)) (pv 1) (nomark _)) (pe_and (pe_cmpR op_le pe_int (pe_ix (ix_seqK (K:=K) rfl) (pv 0) pe_int (fun _ _=>rfl)) (nomark _)) (pe_one (pe_cmpR op_lt (pe_ix (ix_seqK (K:=K) rfl) (pv 0) pe_int (fun _ _=>rfl)) (pv 2) (nomark _))))))))),
 (ss_seq (ss_if (st_or (st_not (st_tru (K:=K) (SemI.b (si_isi (n := "list") (sb_var 0))))) (st_or (st_test (SemI.b (si_eq (neg:=true) (SemI.b (si_len (sb_var 0))) (SemI.b si_int)))) (st_or (st_not (st_tru (K:=K) (SemI.b (si_call (sa_any (sb_ix (sb_var 0) (SemI.b si_int)) sa_nil))))) (st_not (st_tru (K:=K) (SemI.b (si_call (sa_any (sb_ix (sb_var 0) (SemI.b si_int)) sa_nil))))))))
 (ss_ret si_bl)
 ss_pass)
 (ss_ret (si_andV (SemI.b (si_le (SemI.b si_int) (sb_ix (sb_var 0) (SemI.b si_int)))) (si_andV (SemI.b (si_lt (sb_ix (sb_var 0) (SemI.b si_int)) (sb_var 1))) (si_andV (SemI.b (si_le (SemI.b si_int) (sb_ix (sb_var 0) (SemI.b si_int)))) (si_lt (sb_ix (sb_var 0) (SemI.b si_int)) (sb_var 2)))))))⟩
theorem ok_l_phase (T:Txt K mg ad):FnOk P w K mg base CX0 3 ad.f_l_phase ad.d_l_phase ["_law_phase_here", "_law_table_here", "_law_done"] (spUT K 2 [true,true,false] F_l_phase):=by
  rw [F_l_phase_def]
  exact Fun.okUT (N:=["_law_phase_here", "_law_table_here", "_law_done", "_law_hands", "_law_some", "_law_pair"]) T.F_l_phase sc_l_phase 2 [true,true,false] rfl (ms_all rfl) (by decide) B_l_phase fun cdv A outer s H E hr=>⟨_,
 (pss_cons (ps_if (PW.pt (pw_or (pt_not (pt_truthK (K:=K) rfl (pe_callB (call_isiK (K:=K) rfl) rfl T.z_isinstance bt_isinstance (pa_cons (pv 0) (pa_cons (pe_bltn (v:=.ty "list") rfl T.z_list bt_list rfl) pa_nil))) (fun _=>rfl))) (pw_or (pt_cmpR (op_neD (K:=K) hr.units) (pe_callB (call_lenK (K:=K) rfl) rfl T.z_len bt_len (pa_cons (pv 0) pa_nil)) pe_int (nomark _)) (pw_or (pt_not (pt_truthK (K:=K) rfl (pe_call (ok_l_whole T) (hr.mono (by decide)) rfl T.m_l_whole T.F_l_whole.kp T.b_l_whole .nil pass0 (pa_cons (pe_ix (ix_seqK (K:=K) rfl) (pv 0) pe_int (fun _ _=>rfl)) pa_nil)) (fun _=>rfl))) (pw_or1 (pt_cmpR op_lt (pe_ix (ix_seqK (K:=K) rfl) (pv 0) pe_int (fun _ _=>rfl)) pe_int (nomark _)))))))
 (pss_one (ps_ret pe_bl))
 pss_nil)
 (pss_cons (ps_if (pt_not (pt_truthK (K:=K) rfl (pe_callB (call_isiK (K:=K) rfl) rfl T.z_isinstance bt_isinstance (pa_cons (pe_ix (ix_seqK (K:=K) rfl) (pv 0) pe_int (fun _ _=>rfl)) (pa_cons (pe_bltn (v:=.ty "list") rfl T.z_list bt_list rfl) pa_nil))) (fun _=>rfl)))
 (pss_one (ps_ret pe_bl))
 pss_nil)
 (pss_cons (ps_set (i:=3) sc_l_phase.nd rfl (Or.inl rfl) (pe_lst pa_nil))
 (pss_cons (ps_set (i:=4) sc_l_phase.nd rfl (Or.inl rfl) (pe_lst pa_nil))
 (pss_cons (ps_for PassesOwn.never rfl (pi_listK (K:=K) rfl (pe_ix (ix_seqK (K:=K) rfl) (pv 0) pe_int (fun _ _=>rfl))) (pg_name (i:=5) sc_l_phase.nd rfl (Or.inl rfl))
 (pss_cons (ps_if (pt_not (pt_truthK (K:=K) rfl (pe_call (ok_l_two T) (hr.mono (by decide)) rfl T.m_l_two T.F_l_two.kp T.b_l_two .nil pass0 (pa_cons (pv 5) (pa_cons (pe_callB (call_lenK (K:=K) rfl) rfl T.z_len bt_len (pa_cons (pv 1) pa_nil)) (pa_cons (pe_callB (call_lenK (K:=K) rfl) rfl T.z_len bt_len (pa_cons (pe_ix (ix_seqK (K:=K) rfl) (pv 1) pe_int (fun _ _=>rfl)) pa_nil)) pa_nil)))) (fun _=>rfl)))
 (pss_one (ps_ret pe_bl))
 pss_nil)
 (pss_cons (ps_if (PW.pt (pw_or (pt_cmpR (op_in_seqK (K:=K) rfl) (pe_ix (ix_seqK (K:=K) rfl) (pv 5) pe_int (fun _ _=>rfl)) (pv 3) (by with_unfolding_all rfl)) (pw_or1 (pt_cmpR (op_in_seqK (K:=K) rfl) (pe_ix (ix_seqK (K:=K) rfl) (pv 5) pe_int (fun _ _=>rfl)) (pv 4) (by with_unfolding_all rfl)))))
 (pss_one (ps_ret pe_bl))
 pss_nil)
 (pss_cons (ps_expr (pe_bm PySem.F.plainAttrs_list PySem.F.slot_list_append PySem.F.type_list_append mt_append (pv 3) (pa_cons (pe_ix (ix_seqK (K:=K) rfl) (pv 5) pe_int (fun _ _=>rfl)) pa_nil)))
 (pss_cons (ps_expr (pe_bm PySem.F.plainAttrs_list PySem.F.slot_list_append PySem.F.type_list_append mt_append (pv 4) (pa_cons (pe_ix (ix_seqK (K:=K) rfl) (pv 5) pe_int (fun _ _=>rfl)) pa_nil)))
 (pss_one (ps_asg (pe_op op_add (pe_ix (ix_seqK (K:=K) rfl) (pe_ix (ix_seqK (K:=K) rfl) (pv 2) (pe_ix (ix_seqK (K:=K) rfl) (pv 5) pe_int (fun _ _=>rfl)) (fun _ _=>rfl)) (pe_ix (ix_seqK (K:=K) rfl) (pv 5) pe_int (fun _ _=>rfl)) (fun _ _=>rfl)) (pe_ix (ix_seqK (K:=K) rfl) (pv 0) pe_int (fun _ _=>rfl))) (pg_sub (pe_ix (ix_seqK (K:=K) rfl) (pv 2) (pe_ix (ix_seqK (K:=K) rfl) (pv 5) pe_int (fun _ _=>rfl)) (fun _ _=>rfl)) (pe_ix (ix_seqK (K:=K) rfl) (pv 5) pe_int (fun _ _=>rfl)) set_list))))))))
 (pss_one (ps_ret pe_bl))))))),
    (sr_seq (ss_if (st_or (st_not (st_tru (K:=K) (SemI.b (si_isi (n := "list") (sb_var 0))))) (st_or (st_test (SemI.b (si_eq (neg:=true) (SemI.b (si_len (sb_var 0))) (SemI.b si_int)))) (st_or (st_not (st_tru (K:=K) (SemI.b (si_call (sa_any (sb_ix (sb_var 0) (SemI.b si_int)) sa_nil))))) (st_test (SemI.b (si_lt (sb_ix (sb_var 0) (SemI.b si_int)) (SemI.b si_int)))))))
 (ss_ret si_bl)
 ss_pass)
    (sr_seq (ss_if (st_not (st_tru (K:=K) (SemI.b (si_isi (n := "list") (sb_ix (sb_var 0) (SemI.b si_int))))))
 (ss_ret si_bl)
 ss_pass)
    (sr_seq (ss_setO (sf_lst (n:=0) sa_nil (by decide)))
    (sr_seq (ss_setO (sf_lst (n:=0) sa_nil (by decide)))
    (sr_seq (ss_for (m:=true) (sw_list (si_ix (si_var 0) (SemI.b si_int))) (sg_name 5)
 (ss_seq (ss_if (st_not (st_tru (K:=K) (SemI.b (si_call (sa_any (sb_var 5) (sa_any (SemI.b (si_len (sb_var 1))) (sa_any (SemI.b (si_len (sb_ix (sb_var 1) (SemI.b si_int)))) sa_nil)))))))
 (ss_ret si_bl)
 ss_pass)
 (ss_seq (ss_if (st_or (st_test (SemI.b (si_in (neg:=false) (sb_ix (sb_var 5) (SemI.b si_int)) (sb_var 3)))) (st_test (SemI.b (si_in (neg:=false) (sb_ix (sb_var 5) (SemI.b si_int)) (sb_var 4)))))
 (ss_ret si_bl)
 ss_pass)
 (ss_seq (ss_app (si_ix (si_var 5) (SemI.b si_int)))
 (ss_seq (ss_app (si_ix (si_var 5) (SemI.b si_int)))
 (ss_put2P (si_add (sb_ix (sb_ix (sb_var 2) (sb_ix (sb_var 5) (SemI.b si_int))) (sb_ix (sb_var 5) (SemI.b si_int))) (sb_ix (sb_var 0) (SemI.b si_int))) (sb_ix (sb_var 5) (SemI.b si_int)) (sb_ix (sb_var 5) (SemI.b si_int))))))))
    sr_ret)))))⟩
theorem ok_l_is_phases (T:Txt K mg ad):FnOk P w K mg base CX0 4 ad.f_l_is_phases ad.d_l_is_phases ["_law_table_here", "_law_found"] (spD .v K [true,true] F_l_is_phases):=by
  rw [F_l_is_phases_def]
  exact Fun.okD (N:=["_law_table_here", "_law_found", "_law_done", "_law_total", "_law_phase_here"]) T.F_l_is_phases sc_l_is_phases [true,true] rfl B_l_is_phases fun cdv A outer s H E hr=>⟨_,
 (pss_cons (ps_if (PW.pt (pw_or (pt_not (pt_truthK (K:=K) rfl (pe_callB (call_isiK (K:=K) rfl) rfl T.z_isinstance bt_isinstance (pa_cons (pv 1) (pa_cons (pe_bltn (v:=.ty "list") rfl T.z_list bt_list rfl) pa_nil))) (fun _=>rfl))) (pw_or1 (pt_cmpR op_gt (pe_callB (call_lenK (K:=K) rfl) rfl T.z_len bt_len (pa_cons (pv 1) pa_nil)) pe_int (nomark _)))))
 (pss_one (ps_ret pe_bl))
 pss_nil)
 (pss_cons (ps_cN0 (i:=2) sc_l_is_phases.nd rfl rfl rfl (pi_listK (K:=K) rfl (pv 0)) (ts:=["_law_row"]) (zs:=[]) (k:=1) (is:=[]) rfl .nil .nil rfl (low_name (by decide)) (fun _ _ _ _ _=>(pgb (by decide +kernel) rfl rfl)) (fun _ _ _ _ _=>(pe_op op_rep (pe_lst (pa_cons pe_int pa_nil)) (pe_callB (call_lenK (K:=K) rfl) rfl T.z_len bt_len (pa_cons (pv 0) pa_nil)))) rfl (by decide +kernel) rfl (by decide +kernel))
 (pss_cons (ps_set (i:=3) sc_l_is_phases.nd rfl (Or.inl rfl) pe_int)
 (pss_cons (ps_for PassesOwn.never rfl (pi_listK (K:=K) rfl (pv 1)) (pg_name (i:=4) sc_l_is_phases.nd rfl (Or.inl rfl))
 (pss_cons (ps_if (PW.pt (pw_or (pt_cmpR (op_eqD (K:=K) hr.units) (pv 0) (pe_lst pa_nil) (nomark _)) (pw_or1 (pt_not (pt_truthK (K:=K) rfl (pe_call (ok_l_phase T) (hr.mono (by decide)) rfl T.m_l_phase T.F_l_phase.kp T.b_l_phase .nil pass0 (pa_cons (pv 4) (pa_cons (pv 0) (pa_cons (pv 2) pa_nil)))) (fun _=>rfl)))))) (pss_one (ps_ret pe_bl)) pss_nil)
 (pss_one (ps_set (i:=3) sc_l_is_phases.nd rfl (Or.inl rfl) (pe_op op_add (pv 3) (pe_ix (ix_seqK (K:=K) rfl) (pv 4) pe_int (fun _ _=>rfl)))))))
 (pss_one (ps_ret (pe_and (pe_cmpR (op_eqD (K:=K) hr.units) (pv 2) (pv 0) (nomark _)) (pe_one (pe_cmpR (op_eqD (K:=K) hr.units) (pv 3) (pe_call (ok_l_end T) (hr.mono (by decide)) rfl T.m_l_end T.F_l_end.kp T.b_l_end .nil pass0 (pa_cons (pv 0) pa_nil)) (nomark _)))))))))),
 (ss_seq (ss_if (st_or (st_not (st_tru (K:=K) (SemI.b (si_isi (n := "list") (sb_var 1))))) (st_test (SemI.b (si_gt (SemI.b (si_len (sb_var 1))) (SemI.b si_int)))))
 (ss_ret si_bl)
 ss_pass)
 (ss_seq (ss_setMC (sm_comp (m:=true) (k:=1) (cs:=[]) (SemW.c (sw_list (si_var 0))) (sg_name 0) st_true (sf_rep (sf_lst (n:=1) (sa_own si_int sa_nil) (by decide)) (SemI.b (si_len (sb_var 0))))))
 (ss_seq (ss_set si_int)
 (ss_seq (ss_for (m:=true) (sw_list (si_var 1)) (sg_name 4)
 (ss_seq (ss_ifU (i:=2) (st_test (SemI.b (si_eq (neg:=false) (sb_var 0) (SemI.b (SemF.l (sf_lst (n:=0) sa_nil (by decide))))))) (su_next (si_var 4) (su_next (si_var 0) (su_here sa_nil))))
 (ss_set (si_add (sb_var 3) (sb_ix (sb_var 4) (SemI.b si_int))))))
 (ss_ret (si_andV (SemI.b (si_eq (neg:=false) (sb_var 2) (sb_var 0))) (si_eq (neg:=false) (sb_var 3) (SemI.b (si_call (sa_any (sb_var 0) sa_nil))))))))))⟩
theorem ok_law (T:Txt K mg ad):FnOk P w K mg base CX0 19 ad.f_law ad.d_law ["_law_script"] (spD .v K [false] F_law):=by
  rw [F_law_def]
  exact Fun.okD (N:=["_law_script", "_law_table_here", "_law_handed"]) T.F_law sc_law [false] rfl B_law fun cdv A outer s H E hr=>⟨_,
 (pss_cons (ps_set (i:=1) sc_law.nd rfl (Or.inl rfl) (pe_call (ok_l_table T) (hr.mono (by decide)) rfl T.m_l_table T.F_l_table.kp T.b_l_table .nil pass0 (pa_cons (pv 0) pa_nil)))
 (pss_cons (ps_cN0 (i:=2) sc_law.nd rfl rfl rfl (pi_listK (K:=K) rfl (pv 1)) (ts:=["_law_row"]) (zs:=[]) (k:=1) (is:=[]) rfl .nil .nil rfl (low_name (by decide)) (fun _ _ _ _ _=>(pgb (by decide +kernel) rfl rfl)) (fun _ _ _ _ _=>(pe_callTy (call_list_ofK (K:=K) rfl) rfl T.z_list bt_list (pa_cons (pv 0) pa_nil))) rfl (by decide +kernel) rfl (by decide +kernel))
 (pss_one (ps_ret (pe_and (pe_call (ok_l_is_phases T) (hr.mono (by decide)) rfl T.m_l_is_phases T.F_l_is_phases.kp T.b_l_is_phases .nil pass0 (pa_cons (pv 1) (pa_cons (pe_call (ok_phases T) (hr.mono (by decide)) rfl T.m_phases T.F_phases.kp T.b_phases .nil pass0 (pa_cons (pv 2) pa_nil)) pa_nil))) (pe_one (pe_cmpR (op_eqD (K:=K) hr.units) (pv 2) (pv 1) (nomark _)))))))),
 (ss_seq (ss_set (si_call (sa_any (sb_var 0) sa_nil)))
 (ss_seq (ss_setC (SemF.l (sf_comp (m:=true) (k:=1) (cs:=[]) (SemW.c (sw_list (si_var 1))) (sg_name 0) st_true (SemF.l (sf_list (si_var 0))))))
 (ss_ret (si_andV (SemI.b (si_call (sa_own (si_var 1) (sa_own (si_call (sa_any (sb_var 2) sa_nil)) sa_nil)))) (si_eq (neg:=false) (sb_var 2) (sb_var 1))))))⟩
end
local macro_rules | `(tactic| walk_at "sd")=>`(tactic| first | assumption | omega | decide | (simp only [List.length_map,List.length_cons,List.length_nil]; omega) | ((with_reducible apply And.intro) <;> walk_at "sd"))
local macro_rules | `(tactic| walk_at "fn")=>`(tactic| assumption)
local macro_rules | `(tactic| walk_at "ix")=>`(tactic| first | exact ixS (by omega) (by omega) | exact ixI (by omega) (by omega) | exact ix2I _ _ _ | exact ix3I _ _ _ _ | exact ix4I _ _ _ _ _ | rfl)
local macro_rules | `(tactic| walk_at "ev")=>`(tactic| first
  | ((with_reducible first | apply ev_add | apply ev_sub | apply ev_lt | apply ev_le | apply ev_gt | apply ev_ge | apply ev_max2 | apply ev_min2 | apply ev_cons | apply ev_eqF | apply ev_neF); (· walk_at "ev"); (· walk_at "ev"))
  | ((with_reducible first | apply ev_neg | apply ev_t | apply ev_not | apply ev_notV | apply ev_lst | apply ev_tup | apply ev_oSome); (· walk_at "ev"))
  | ((with_reducible first | apply ev_tru | apply ev_scal | apply ev_f1 | apply ev_asL | apply ev_lof); (· walk_at "ev"); (· rfl))
  | ((with_reducible first | apply ev_and | apply ev_or | apply ev_andV | apply ev_orV); (· walk_at "ev"); (· intro _; walk_at "ev"))
  | ((with_reducible first | show dVar _ _=_ | show dVarI _ _=_ | show dVarO _ _=_ | show dC _ _=_ | show dNil _=_ | show oNone _=_ | show dTrue _=_); rfl)
  | ((with_reducible apply ev_ix); (· walk_at "ev"); (· walk_at "ev"); (· walk_at "ix"))
  | ((with_reducible apply ev_call); (· walk_at "ev"); (· walk_at "fn"))
  | ((with_reducible first | apply ev_chain | apply ev_sl); (· walk_at "ev"); (· walk_at "ev"); (· walk_at "ev"))
  | ((with_reducible apply ev_mul); (· walk_at "ev"); (· walk_at "ev"); (· first | assumption | (apply imul; omega)))
  | ((with_reducible apply ev_fdiv); (· walk_at "ev"); (· walk_at "ev"); (· first | exact fdok (by omega) (by omega) | walk_at "sd"))
  | ((with_reducible first | apply ev_mod | apply ev_rg2); (· walk_at "ev"); (· walk_at "ev"); (· walk_at "sd"))
  | ((with_reducible apply ev_rg1); (· walk_at "ev"); (· walk_at "sd"))
  | ((with_reducible apply ev_rep); (· walk_at "ev"); (· walk_at "ev"); (· simp only [List.length_cons,List.length_nil]; walk_at "sd")))
local macro_rules | `(tactic| walk_at "st")=>`(tactic| dsimp only [List.set_cons_succ,List.set_cons_zero])
local macro_rules | `(tactic| walk_at "go")=>`(tactic| ((try dsimp only); walk_at "go1"))
local macro_rules | `(tactic| walk_at "go1")=>`(tactic| first
  | ((with_reducible apply wp_seq); walk_at "go")
  | ((with_reducible apply wp_frz); dsimp only [frz,List.getD_cons_succ,List.getD_cons_zero,List.set_cons_succ,List.set_cons_zero]; walk_at "go")
  | ((with_reducible apply wp_set); (· walk_at "ev"); walk_at "st"; walk_at "go")
  | ((with_reducible apply wp_setO); (· walk_at "ev"); (· simp only [List.length_cons,List.length_nil]; omega); walk_at "st"; walk_at "go")
  | ((with_reducible apply wp_aug); (· rfl); (· walk_at "ev"); walk_at "st"; walk_at "go")
  | ((with_reducible apply wp_pass); (try dsimp only); walk_at "go")
  | skip)
theorem cell_at (ns:List Int) (k:Int) (h:0≤k):F_l_cell_at [.scr ns,.int k]=some (.int (ns.getD k.toNat 0)):=by
  refine run_eqF F_l_cell_at_def ?_
  rw [st_l_cell_at]
  unfold B_l_cell_at
  walk_at "go"
  refine wp_ifp (by walk_at "ev") (fun c=>?_) fun c=>?_
  · refine wp_ret (by walk_at "ev") rfl
  · walk_at "go"
    refine wp_ret (by walk_at "ev") ?_
    rw [List.getD_eq_getElem?_getD,List.getElem?_eq_none (by omega)]
    rfl
def mixedZ (c k:Int):Int:=(c*48271+k*k*69621+3) % 2147483647*((c*48271+k*k*69621+3) % 2147483647) % 2147483629
theorem mixed (c k:Int) (h0:0≤k) (h:k<2 ^ 31):F_l_mixed [.int c,.int k]=some (.int (mixedZ c k)):=by
  refine run_eqF F_l_mixed_def ?_
  rw [st_l_mixed]
  unfold B_l_mixed
  have hk:k*k<2 ^ 64:=by
    have:=Int.mul_le_mul (a:=k) (b:=k) (c:=2 ^ 31) (d:=2 ^ 31) (by omega) (by omega) h0 (by omega)
    omega
  have hk0:0≤k*k:=Int.mul_nonneg h0 h0
  walk_at "go"
  refine wp_ret (by walk_at "ev") ?_
  rfl
theorem mixedZ_nn (c k:Int):0≤mixedZ c k:=Int.emod_nonneg _ (by decide)
local macro_rules | `(tactic| walk_at "fn")=>`(tactic| first | exact cell_at _ _ (by omega) | exact mixed _ _ (by omega) (by omega))
theorem upL_at {lo:Int} {n j:Nat} {d:D} (h:(upL lo n)[j]?=some d):j<n∧d=.int (lo+j):=upL_get h
theorem set_mapI (xs:List Int) (j:Nat) (v:Int):(xs.map D.int).set j (.int v)=(xs.set j v).map D.int:=by rw [List.map_set]
theorem mem_getD {p:List Int} {k:Nat} (hk:k<p.length):p.getD k 0∈p:=by rw [List.getD_eq_getElem?_getD,List.getElem?_eq_getElem hk]; exact List.getElem_mem hk
def rowsD (T:List (List Int)):D:=.lst (T.map fun r=>.lst (r.map D.int))
theorem numbers (ns:List Int) (hl:ns.length≤63):∃ xs:List Int,F_l_numbers [.scr ns]=some (.lst (xs.map D.int))∧xs.length=36∧∀ x∈xs,0≤x∧x<2147483629:=by
  have hline:sizeLine=16777216:=sizeLine_eq
  have mb:∀ c k,0≤mixedZ c k∧mixedZ c k<2147483629:=fun c k=>⟨mixedZ_nn c k,Int.emod_lt_of_pos _ (by decide)⟩
  obtain ⟨d,e,xs,rfl,h1,h2⟩:=run_ofF F_l_numbers_def (ds:=[.scr ns]) (P:=fun d=>∃ xs:List Int,d=.lst (xs.map D.int)∧xs.length=36∧∀ x∈xs,0≤x∧x<2147483629) (by
    rw [st_l_numbers]
    unfold B_l_numbers
    walk_at "go"
    refine wp_setO (ds:=((List.range 36).map fun (i:Nat)=>mixedZ (ns.getD (2:Int).toNat 0) (90+(0+(i:Int)))).map D.int) ?_ (by show 1<3; decide) ?_
    · rw [ev_comp0 (by walk_at "ev") (fun d=>match d with | .int k=>.int (mixedZ (ns.getD (2:Int).toNat 0) (90+k)) | d=>d) ?_]
      · unfold upL
        rw [List.map_map,List.map_map]
        rfl
      · intro d hd
        obtain ⟨i,hi⟩:=List.getElem?_of_mem hd
        obtain ⟨h1,rfl⟩:=upL_at hi
        exact ⟨_,rfl,by walk_at "ev"⟩
    walk_at "st"
    generalize hx0:((List.range 36).map fun (i:Nat)=>mixedZ (ns.getD (2:Int).toNat 0) (90+(0+(i:Int))))=xs0
    have hx:xs0.length=36∧∀ x∈xs0,0≤x∧x<2147483629:=by
      rw [← hx0]
      refine ⟨by simp,fun x hx=>?_⟩
      obtain ⟨i,_,rfl⟩:=List.mem_map.mp hx
      exact mb _ _
    clear hx0
    walk_at "go"
    refine wp_for (by walk_at "ev") (fun j ρ=>∃ xs v2,(xs.length=36∧∀ x∈xs,0≤x∧x<2147483629)∧ρ=[.bo (.scr ns),.ol (xs.map D.int),v2]) ⟨xs0,.un,hx,rfl⟩ ?_ ?_
    · rintro j d ρ hd ⟨xs,v2,hx,rfl⟩
      obtain ⟨hj,rfl⟩:=upL_at hd
      refine ⟨_,rfl,?_⟩
      dsimp only [gN,slm,List.set_cons_succ,List.set_cons_zero]
      have hx1:=hx.1
      refine wp_put rfl (by walk_at "ev") (by walk_at "ev") (ixN_in (by omega) (by rw [List.length_map]; omega)) ?_
      dsimp only [List.set_cons_succ,List.set_cons_zero]
      rw [set_mapI]
      refine ⟨_,_,⟨by rw [List.length_set]; exact hx1,fun x hm=>?_⟩,rfl⟩
      rcases List.mem_or_eq_of_mem_set hm with h | rfl
      · exact hx.2 x h
      · exact mb _ _
    · rintro ρ ⟨xs,v2,hx,rfl⟩
      walk_at "go"
      exact wp_ret (by walk_at "ev") ⟨xs,rfl,hx⟩)
  exact ⟨xs,e,h1,h2⟩
theorem size (c:Int):∃ m:Int,F_l_size [.int c]=some (.int m)∧0≤m∧m≤6:=by
  obtain ⟨d,e,m,rfl,h1⟩:=run_ofF F_l_size_def (ds:=[.int c]) (P:=fun d=>∃ m:Int,d=.int m∧0≤m∧m≤6) (by
    rw [st_l_size]
    unfold B_l_size
    walk_at "go"
    refine wp_ifp (by walk_at "ev") (fun c=>wp_ret (by walk_at "ev") ⟨_,rfl,by omega,by omega⟩) fun c=>?_
    walk_at "go"
    exact wp_ret (by walk_at "ev") ⟨_,rfl,by omega,by omega⟩)
  exact ⟨m,e,h1⟩
theorem hours (x m:Int) (h0:0≤x) (h1:x<2147483629):∃ h:Int,F_l_hours [.int x,.int m]=some (.int h)∧0≤h:=by
  obtain ⟨d,e,m,rfl,h1⟩:=run_ofF F_l_hours_def (ds:=[.int x,.int m]) (P:=fun d=>∃ m:Int,d=.int m∧0≤m) (by
    rw [st_l_hours]
    unfold B_l_hours
    walk_at "go"
    refine wp_ifp (by walk_at "ev") (fun c=>wp_ret (by walk_at "ev") ⟨_,rfl,by omega⟩) fun c=>?_
    walk_at "go"
    refine wp_ifp (by walk_at "ev") (fun c=>?_) fun c=>?_
    · refine wp_ret (ev_mul (by walk_at "ev") (by walk_at "ev") (imul (.inl ⟨by omega,by omega⟩))) ⟨_,rfl,Int.mul_nonneg (by omega) (by split <;> omega)⟩
    walk_at "go"
    refine wp_ifp (by walk_at "ev") (fun c=>?_) fun c=>?_
    · refine wp_ret (ev_add (ev_mul (by walk_at "ev") (ev_pow rfl rfl ⟨by decide,by decide,by decide⟩) (imul (.inl ⟨by omega,by omega⟩))) (by walk_at "ev")) ⟨_,rfl,Int.add_nonneg (Int.mul_nonneg (by omega) (by decide)) (mixedZ_nn _ _)⟩
    walk_at "go"
    exact wp_ret (ev_mul (by walk_at "ev") (ev_pow rfl rfl ⟨by decide,by decide,by decide⟩) (imul (.inl ⟨by omega,by omega⟩))) ⟨_,rfl,Int.mul_nonneg (by omega) (by decide)⟩)
  exact ⟨m,e,h1⟩
structure Tab (T:List (List Int)) (m:Nat):Prop where
  len:T.length≤6
  wid:∀ r∈T,r.length=m
  few:m≤6
  nn:∀ r∈T,∀ x∈r,0≤x
theorem table (ns:List Int) (hl:ns.length≤63):∃ (T:List (List Int)) (m:Nat),F_l_table [.scr ns]=some (rowsD T)∧Tab T m:=by
  have hline:sizeLine=16777216:=sizeLine_eq
  obtain ⟨xs,ex,hx1,hx2⟩:=numbers ns hl
  obtain ⟨hd,eh,hh0,hh1⟩:=size (ns.getD (0:Int).toNat 0)
  obtain ⟨bn,eb,hb0,hb1⟩:=size (ns.getD (1:Int).toNat 0)
  obtain ⟨d,e,T,m,rfl,hT⟩:=run_ofF F_l_table_def (ds:=[.scr ns]) (P:=fun d=>∃ (T:List (List Int)) (m:Nat),d=rowsD T∧Tab T m) (by
    rw [st_l_table]
    unfold B_l_table
    walk_at "go"
    generalize hM:bn*_=M
    have hm:0≤M∧M≤6:=by
      rw [← hM]; split <;> omega
    clear hM
    generalize ns.getD (2:Int).toNat 0=c
    refine wp_for (by walk_at "ev") (fun j ρ=>∃ (T:List (List Int)) (v6 v7 v8 v9:Sl),T.length=j∧(∀ r∈T,r.length=M.toNat)∧(∀ r∈T,∀ x∈r,0≤x)∧ρ=[.bo (.scr ns),.pu (.lst (xs.map D.int)),.pu (.int c),.pu (.int hd),.pu (.int M),.ol (T.map fun r=>.lst (r.map D.int)),v6,v7,v8,v9])
      ⟨[],_,_,_,_,rfl,by simp,by simp,rfl⟩ ?_ ?_
    · rintro j d ρ hd' ⟨T,v6,v7,v8,v9,hT1,hT2,hT3,rfl⟩
      obtain ⟨hj,rfl⟩:=upL_at hd'
      refine ⟨_,rfl,?_⟩
      dsimp only [gN,slm,List.set_cons_succ,List.set_cons_zero]
      walk_at "go"
      refine wp_for (by walk_at "ev") (fun i ρ=>∃ (r:List Int) (v8 v9:Sl),r.length=i∧(∀ x∈r,0≤x)∧ρ=[.bo (.scr ns),.pu (.lst (xs.map D.int)),.pu (.int c),.pu (.int hd),.pu (.int M),.ol (T.map fun r=>.lst (r.map D.int)),.pu (.int (0+(j:Int))),.ol (r.map D.int),v8,v9])
        ⟨[],_,_,rfl,by simp,rfl⟩ ?_ ?_
      · rintro i d ρ hd2 ⟨r,v8,v9,hr1,hr2,rfl⟩
        obtain ⟨hi,rfl⟩:=upL_at hd2
        refine ⟨_,rfl,?_⟩
        dsimp only [gN,slm,List.set_cons_succ,List.set_cons_zero]
        walk_at "go"
        have hk:(6*(0+(j:Int))+(0+(i:Int))).toNat<xs.length:=by omega
        obtain ⟨h,e2,hh⟩:=hours (xs.getD (6*(0+(j:Int))+(0+(i:Int))).toNat 0) (c % 4) (hx2 _ (mem_getD hk)).1 (hx2 _ (mem_getD hk)).2
        refine wp_app rfl (ev_mul (ev_call (by walk_at "ev") e2) (ev_f1 (by walk_at "ev") rfl) (imul (.inr ⟨by split <;> omega,by split <;> omega⟩))) (by rw [List.length_map]; omega) ?_
        dsimp only [List.set_cons_succ,List.set_cons_zero]
        refine ⟨r++[_],_,_,by rw [List.length_append,hr1]; rfl,fun x hm=>?_,by rw [List.map_append]; rfl⟩
        rcases List.mem_append.mp hm with h | h
        · exact hr2 x h
        · rw [List.mem_singleton.mp h]
          exact Int.mul_nonneg hh (by split <;> omega)
      · rintro ρ ⟨r,v8,v9,hr1,hr2,rfl⟩
        rw [upL_len] at hr1
        walk_at "go"
        refine wp_app rfl (by walk_at "ev") (by rw [List.length_map]; omega) ?_
        dsimp only [List.set_cons_succ,List.set_cons_zero]
        refine ⟨T++[r],_,_,_,_,by rw [List.length_append,hT1]; rfl,fun x hm=>?_,fun x hm=>?_,by rw [List.map_append]; rfl⟩
        · rcases List.mem_append.mp hm with h | h
          · exact hT2 x h
          · rw [List.mem_singleton.mp h]; exact hr1
        · rcases List.mem_append.mp hm with h | h
          · exact hT3 x h
          · rw [List.mem_singleton.mp h]; exact hr2
    · rintro ρ ⟨T,v6,v7,v8,v9,hT1,hT2,hT3,rfl⟩
      rw [upL_len] at hT1
      walk_at "go"
      exact wp_ret (by walk_at "ev") ⟨T,M.toNat,rfl,⟨by omega,hT2,by omega,hT3⟩⟩)
  exact ⟨T,m,e,hT⟩
theorem ix_zero (x:D) (xs:List D):ixD (.lst (x::xs)) 0=some x:=by
  show atI (x::xs) 0=_
  unfold atI ixN
  rw [if_pos (Int.le_refl 0),if_pos (by rw [List.length_cons]; omega)]
  rfl
def wdt (T:List (List Int)):Nat:=match T with
  | []=>0
  | r::_=>r.length
def colZ (T:List (List Int)) (j:Nat):Int:=(T.map fun r=>r.getD j 0).sum
def cols (T:List (List Int)):List Int:=(List.range (wdt T)).map (colZ T)
def rsum (T:List (List Int)):List Int:=T.map List.sum
theorem Tab.w {T:List (List Int)} {m:Nat} (h:Tab T m):∀ r∈T,r.length=wdt T:=by
  intro r hr
  cases T with
  | nil=>cases hr
  | cons a b=>rw [h.wid r hr]; exact (h.wid a List.mem_cons_self).symm
theorem Tab.w6 {T:List (List Int)} {m:Nat} (h:Tab T m):wdt T≤6:=by
  cases T with
  | nil=>exact Nat.zero_le _
  | cons a b=>show a.length≤6; rw [h.wid a List.mem_cons_self]; exact h.few
theorem cols_ev {T:List (List Int)} (hT:∀ r∈T,r.length=wdt T) (h6:wdt T≤1000) {ρ:Rho} {it:Rho→Option (List D)} (i:Nat) (h:it ρ=some (upL 0 (wdt T))) (ht:dVar 0 [view (ρ.getD i .un)]=some (rowsD T)) :
    dComp 1 [i] it (gN true 0) dTrue (dF1 sumD (dLst (dComp 1 [0] (asL (dVar 1)) (gN false 0) dTrue (gScal (dIx (dVar 0) (dVar 1)))))) ρ=some ((cols T).map D.int):=by
  have e:upL 0 (wdt T)=(List.range (wdt T)).map fun (j:Nat)=>D.int (0+(j:Int)):=rfl
  rw [e] at h
  rw [ev_compA0 (fun (j:Nat)=>D.int (0+(j:Int))) h (fun j=>D.int (colZ T j)) ?_]
  · unfold cols
    rw [List.map_map]
    rfl
  · intro j hj
    have hj:=List.mem_range.mp hj
    refine ⟨_,rfl,?_⟩
    dsimp only [gN,slm,r0,List.replicate,List.map_cons,List.map_nil,List.append,List.cons_append,List.nil_append,List.set_cons_zero]
    refine ev_f1 (ev_lst (ev_compA0 (fun r=>D.lst (r.map D.int)) (ev_asL (d:=rowsD T) ?_ rfl) (fun (r:List Int)=>D.int (r.getD j 0)) ?_)) ?_
    · exact ht
    · intro r hr
      have hl:=hT r hr
      refine ⟨_,rfl,?_⟩
      dsimp only [gN,slm,r0,List.replicate,List.map_cons,List.map_nil,List.append,List.cons_append,List.nil_append,List.set_cons_zero,List.getD_cons_zero,view]
      have ej:(0+(j:Int)).toNat=j:=by omega
      have:=ixI (ns:=r) (i:=0+(j:Int)) (by omega) (by omega)
      rw [ej] at this
      exact ev_scal (ev_ix rfl rfl this) rfl
    · have e2:(T.map fun r=>D.int (r.getD j 0))=(T.map fun r=>r.getD j 0).map D.int:=by rw [List.map_map]; rfl
      rw [e2]
      exact sumD_ints _
theorem rsum_ev {T:List (List Int)} {ρ:Rho} {a:DE} (ha:a ρ=some (rowsD T)):dComp 1 [] (asL a) (gN false 0) dTrue (dF1 sumD (dVar 0)) ρ=some ((rsum T).map D.int):=by
  rw [ev_compA0 (fun r=>D.lst (r.map D.int)) (ev_asL ha rfl) (fun (r:List Int)=>D.int r.sum) fun r _=>⟨_,rfl,ev_f1 rfl (sumD_ints _)⟩]
  unfold rsum
  rw [List.map_map]
  rfl
theorem loads {T:List (List Int)} (hT:∀ r∈T,r.length=wdt T) (h6:wdt T≤1000):F_loads [rowsD T]=some (.tup [.lst ((rsum T).map D.int),.lst ((cols T).map D.int)]):=by
  have hline:sizeLine=16777216:=sizeLine_eq
  refine run_eqF F_loads_def ?_
  rw [st_loads]
  unfold B_loads
  have e1:dIf (dTru (dVar 0)) (dF1 lenD (dIx (dVar 0) (dC (.int 0)))) (dC (.int 0)) [.bo (rowsD T),.un,.un]=some (.int (wdt T:Nat)):=by
    cases T with
    | nil=>rfl
    | cons a b =>
      have e3:dF1 lenD (dIx (dVar 0) (dC (.int 0))) [.bo (rowsD (a::b)),.un,.un]=some (.int (a.length:Nat)):=by
        refine ev_f1 (ev_ix rfl rfl (ix_zero _ _)) ?_
        show some (D.int ((a.map D.int).length:Nat))=_
        rw [List.length_map]
      exact e3
  refine wp_seq (wp_set e1 ?_)
  walk_at "go"
  have ew:((wdt T:Nat):Int).toNat=wdt T:=by omega
  have e2:dRg1 (dVar 1) [.bo (rowsD T),.pu (.int (wdt T:Nat)),.un]=some (upL 0 (wdt T)):=by
    have:=ev_rg1 (ρ:=[.bo (rowsD T),.pu (.int (wdt T:Nat)),.un]) (a:=dVar 1) (i:=(wdt T:Nat)) rfl ⟨by omega,by omega⟩
    rw [ew] at this
    exact this
  refine wp_set (ev_lst (cols_ev hT h6 0 e2 rfl)) ?_
  walk_at "go"
  exact wp_ret (ev_tup (ev_cons (ev_lst (rsum_ev rfl)) (ev_cons rfl rfl))) rfl
theorem sum_nn:∀ (xs:List Int),(∀ x∈xs,0≤x)→0≤xs.sum
  | [],_=>Int.le_refl _
  | x::r,h=>by rw [List.sum_cons]; exact Int.add_nonneg (h x List.mem_cons_self) (sum_nn r fun y hy=>h y (List.mem_cons_of_mem _ hy))
theorem sums_nn {T:List (List Int)} (hn:∀ r∈T,∀ x∈r,0≤x):∀ x∈rsum T++cols T,0≤x:=by
  intro x hx
  rcases List.mem_append.mp hx with h | h
  · obtain ⟨r,hr,rfl⟩:=List.mem_map.mp h
    exact sum_nn r (hn r hr)
  · obtain ⟨j,_,rfl⟩:=List.mem_map.mp h
    refine sum_nn _ fun y hy=>?_
    obtain ⟨r,hr,rfl⟩:=List.mem_map.mp hy
    rw [List.getD_eq_getElem?_getD]
    cases e:r[j]? with
    | none=>exact Int.le_refl _
    | some z=>exact hn r hr z (List.mem_of_getElem? e)
theorem whole (x:Int):F_l_whole [.int x]=some (.bl true):=by
  refine run_eqF F_l_whole_def ?_
  rw [st_l_whole]
  unfold B_l_whole
  exact wp_ret (ev_andV (x:=true) (y:=true) rfl fun _=>rfl) rfl
def topZ (T:List (List Int)):Int:=maxL 0 (rsum T++cols T)
theorem maxL_perm {x y:Int} {r s:List Int} (h:∀ a,a∈x::r↔a∈y::s):maxL x r=maxL y s :=
  max_uniq (ns:=x::r) (maxL_spec r x).1 (maxL_spec r x).2 ((h _).mpr (maxL_spec s y).1) fun a ha=>(maxL_spec s y).2 a ((h a).mp ha)
theorem open_end {T:List (List Int)} (hT:∀ r∈T,r.length=wdt T) (h6:wdt T≤1000) (hl:T.length≤1000) (hn:∀ r∈T,∀ x∈r,0≤x):F_open_end [rowsD T]=some (.int (topZ T)):=by
  have hline:sizeLine=16777216:=sizeLine_eq
  have e1:=loads hT h6
  refine run_eqF F_open_end_def ?_
  rw [st_open_end]
  unfold B_open_end
  walk_at "go"
  have lr:(rsum T).length=T.length:=List.length_map ..
  have lc:(cols T).length=wdt T:=by unfold cols; simp
  have e2:∀ ρ:Rho,ρ=[.bo (rowsD T),.pu (.tup [.lst ((rsum T).map D.int),.lst ((cols T).map D.int)])]→dLst (dCat (dIx (dVarI 1) (dC (.int 0))) (dIx (dVarI 1) (dC (.int 1)))) ρ=some (.lst ((rsum T++cols T).map D.int)):=by
    rintro ρ rfl
    rw [List.map_append]
    exact ev_lst (ev_cat (ev_ix rfl rfl rfl) (ev_ix rfl rfl rfl) (by rw [List.length_map,List.length_map]; omega))
  cases e3:rsum T++cols T with
  | nil =>
    refine wp_ret (ev_mxD0 (by rw [e2 _ rfl,e3]; rfl) rfl) ?_
    unfold topZ
    rw [e3]
    rfl
  | cons x r =>
    refine wp_ret (ev_mxD (by rw [e2 _ rfl,e3]) rfl) ?_
    have hx:0≤x:=by
      have:x∈rsum T++cols T:=by rw [e3]; exact List.mem_cons_self
      exact sums_nn hn x this
    unfold topZ
    rw [e3]
    congr 1
    refine max_uniq (ns:=0::x::r) (List.mem_cons_of_mem _ (maxL_spec r x).1) (fun a ha=>?_) (maxL_spec (x::r) 0).1 (maxL_spec (x::r) 0).2
    rcases List.mem_cons.mp ha with rfl | ha
    · exact Int.le_trans hx ((maxL_spec r x).2 x List.mem_cons_self)
    · exact (maxL_spec r x).2 a ha
theorem l_sums {T:List (List Int)} (hT:∀ r∈T,r.length=wdt T) (h6:wdt T≤1000) (hl:T.length≤1000):F_l_sums [rowsD T]=some (.tup [.lst ((rsum T).map D.int),.lst ((cols T).map D.int)]):=by
  have hline:sizeLine=16777216:=sizeLine_eq
  refine run_eqF F_l_sums_def ?_
  rw [st_l_sums]
  unfold B_l_sums
  refine wp_seq (wp_set (ev_lst (rsum_ev rfl)) ?_)
  walk_at "go"
  have e1:dF1 maxD (dLst (dCat (dLst (dComp 1 [] (asL (dVar 0)) (gN false 0) dTrue (dF1 lenD (dVar 0)))) (dLst (dCons (dC (.int 0)) dNil)))) [.bo (rowsD T),.pu (.lst ((rsum T).map D.int)),.un]=some (.int (wdt T:Nat)):=by
    have e2:dComp 1 [] (asL (dVar 0)) (gN false 0) dTrue (dF1 lenD (dVar 0)) [.bo (rowsD T),.pu (.lst ((rsum T).map D.int)),.un]=some ((T.map fun (r:List Int)=>(r.length:Int)).map D.int):=by
      rw [ev_compA0 (fun (r:List Int)=>D.lst (r.map D.int)) (ev_asL (d:=rowsD T) rfl rfl) (fun (r:List Int)=>D.int (r.length:Nat)) fun (r:List Int) _=>⟨_,rfl,ev_f1 rfl (by show some (D.int ((r.map D.int).length:Nat))=_; rw [List.length_map])⟩]
      rw [List.map_map]
      rfl
    refine ev_f1 (ev_lst (ev_cat (ev_lst e2) rfl (by simp; omega))) ?_
    have e3:(T.map fun (r:List Int)=>(r.length:Int)).map D.int++[D.int 0]=((T.map fun (r:List Int)=>(r.length:Int))++[0]).map D.int:=by rw [List.map_append]; rfl
    rw [e3]
    cases T with
    | nil=>rfl
    | cons a b =>
      show maxD (.lst (((a.length:Int)::((b.map fun (r:List Int)=>(r.length:Int))++[0])).map D.int))=_
      rw [maxD_cons]
      congr 2
      refine max_uniq (maxL_spec _ _).1 (maxL_spec _ _).2 (show ((wdt (a::b):Nat):Int)∈_ from List.mem_cons_self) fun x hx=>?_
      rcases List.mem_cons.mp hx with rfl | hx
      · exact Int.le_refl _
      · rcases List.mem_append.mp hx with hx | hx
        · obtain ⟨r,hr,rfl⟩:=List.mem_map.mp hx
          rw [hT r (List.mem_cons_of_mem _ hr)]
          exact Int.le_refl _
        · rw [List.mem_singleton.mp hx]; omega
  refine wp_set e1 ?_
  walk_at "go"
  have ew:((wdt T:Nat):Int).toNat=wdt T:=by omega
  have e2:dRg1 (dVar 2) [.bo (rowsD T),.pu (.lst ((rsum T).map D.int)),.pu (.int (wdt T:Nat))]=some (upL 0 (wdt T)):=by
    have:=ev_rg1 (ρ:=[.bo (rowsD T),.pu (.lst ((rsum T).map D.int)),.pu (.int (wdt T:Nat))]) (a:=dVar 2) (i:=(wdt T:Nat)) rfl ⟨by omega,by omega⟩
    rw [ew] at this
    exact this
  exact wp_ret (ev_tup (ev_cons rfl (ev_cons (ev_lst (cols_ev hT h6 0 e2 rfl)) rfl))) rfl
theorem l_end {T:List (List Int)} (hT:∀ r∈T,r.length=wdt T) (h6:wdt T≤1000) (hl:T.length≤1000):F_l_end [rowsD T]=some (.int (topZ T)):=by
  have hline:sizeLine=16777216:=sizeLine_eq
  have e1:=l_sums hT h6 hl
  refine run_eqF F_l_end_def ?_
  rw [st_l_end]
  unfold B_l_end
  walk_at "go"
  have lr:(rsum T).length=T.length:=List.length_map ..
  have lc:(cols T).length=wdt T:=by unfold cols; simp
  have e2:dLst (dCat (dLst (dCat (dIx (dVarI 1) (dC (.int 0))) (dIx (dVarI 1) (dC (.int 1))))) (dLst (dCons (dC (.int 0)) dNil))) [.bo (rowsD T),.pu (.tup [.lst ((rsum T).map D.int),.lst ((cols T).map D.int)])]=some (.lst ((rsum T++cols T++[0]).map D.int)):=by
    rw [List.map_append,List.map_append]
    exact ev_lst (ev_cat (ev_lst (ev_cat (ev_ix rfl rfl rfl) (ev_ix rfl rfl rfl) (by rw [List.length_map,List.length_map]; omega))) rfl (by simp; omega))
  have e3:maxD (.lst ((rsum T++cols T++[0]).map D.int))=some (.int (topZ T)):=by
    unfold topZ
    cases e4:rsum T++cols T with
    | nil=>rfl
    | cons x r =>
      show maxD (.lst ((x::(r++[0])).map D.int))=_
      rw [maxD_cons]
      congr 2
      exact maxL_perm fun a=>by simp; constructor <;> (rintro (h | h | h) <;> simp [h])
  exact wp_ret (ev_f1 e2 e3) rfl
theorem copy_ev {T:List (List Int)} {ρ:Rho} {a:DE} (ha:a ρ=some (rowsD T)):dLst (dComp 1 [] (asL a) (gN true 0) dTrue (dLst (dLof (dVarI 0)))) ρ=some (rowsD T):=by
  refine ev_lst ?_
  rw [ev_compA0 (fun r=>D.lst (r.map D.int)) (ev_asL ha rfl) (fun (r:List Int)=>D.lst (r.map D.int)) fun r _=>⟨_,rfl,rfl⟩]
structure Match (h b:Nat) (l:Int→Int→Int) (R:Int) (T:Tk):Prop where
  own:∀ j,j∈rgI b→∃ u,getZ T j=some u∧((u∈rgI h∧0<l u j)∨(u=h+j∧colS h l j<R))
  inj:∀ s t u,getZ T s=some u→getZ T t=some u→s=t
  free:∀ i,i∈rgI h→(∃ j,j∈rgI b∧getZ T j=some i)∨rowS b l i<R
theorem matched {h b:Nat} {l:Int→Int→Int} {R:Int} (f:Fits h b l R) (hR:0<R) {n:Nat} (hn:b+h<n):∃ T,takeAll (offs h b l R) n (rgI (h+b)) []=some T∧Match h b l R T:=by
  have E:=even f hR
  obtain ⟨T,e,F⟩:=takeAll_ok E offs_in (n:=n) (by rw [rgI_len]; exact hn) (rgI (h+b)) (fun _=>False) [] (fun x hx=>⟨hx,fun z=>z⟩) (rgI_nodup _) (fun u z=>z.elim) ⟨fun s t u z=>(by cases z),fun t u z=>(by cases z),fun t u z=>(by cases z),fun u z=>z.elim⟩
  refine ⟨T,e,?_⟩
  have hX:∀ u,u∈rgI (h+b)→∃ t,getZ T t=some u:=fun u hu=>F.all u (.inr hu)
  have inX:∀ t u,getZ T t=some u→u∈rgI (h+b):=fun t u z=>(F.own t u z).resolve_left fun z=>z
  have inV:∀ t u,getZ T t=some u→t∈rgI (b+h):=fun t u z=>offs_in u t (F.edge t u z)
  /- every thing is taken -/
  have every:∀ t,t∈rgI (b+h)→∃ u,getZ T t=some u:=by
    intro t0 ht0
    refine Classical.byContradiction fun no=>?_
    have pick:∀ xs:List Int,xs.Nodup→(∀ u∈xs,u∈rgI (h+b))→∃ ts:List Int,ts.length=xs.length∧ts.Nodup∧(∀ t∈ts,∃ u∈xs,getZ T t=some u):=by
      intro xs
      induction xs with
      | nil=>intro _ _; exact ⟨[],rfl,List.nodup_nil,fun t z=>by cases z⟩
      | cons x xs ih =>
        intro nd hx
        obtain ⟨h1,h2⟩:=List.nodup_cons.mp nd
        obtain ⟨ts,e1,e2,e3⟩:=ih h2 fun u hu=>hx u (List.mem_cons_of_mem _ hu)
        obtain ⟨t,ht⟩:=hX x (hx x List.mem_cons_self)
        refine ⟨t::ts,by rw [List.length_cons,List.length_cons,e1],List.nodup_cons.mpr ⟨fun z=>?_,e2⟩,fun s hs=>?_⟩
        · obtain ⟨u,hu,q⟩:=e3 t z
          rw [ht] at q
          cases q
          exact h1 hu
        · rcases List.mem_cons.mp hs with z | z
          · exact ⟨x,List.mem_cons_self,by rw [z]; exact ht⟩
          · obtain ⟨u,hu,q⟩:=e3 s z
            exact ⟨u,List.mem_cons_of_mem _ hu,q⟩
    obtain ⟨ts,e1,e2,e3⟩:=pick (rgI (h+b)) (rgI_nodup _) fun u hu=>hu
    have sub:∀ t∈ts,t∈(rgI (b+h)).erase t0:=fun t ht=>by
      obtain ⟨u,_,q⟩:=e3 t ht
      exact (List.mem_erase_of_ne (fun z:t=t0=>no ⟨u,by rw [← z]; exact q⟩)).mpr (inV t u q)
    have:=nd_len e2 sub
    rw [e1,List.length_erase_of_mem ht0,rgI_len,rgI_len] at this
    have:0<(rgI (b+h)).length:=List.length_pos_of_mem ht0
    rw [rgI_len] at this
    omega
  refine ⟨fun j hj=>?_,F.inj,fun i hi=>?_⟩
  · have hj':=rgI_mem.mp hj
    obtain ⟨u,hu⟩:=every j (rgI_mem.mpr (by omega))
    refine ⟨u,hu,?_⟩
    have ed:=F.edge j u hu
    unfold offs at ed
    split at ed
    · rename_i c
      refine .inl ⟨rgI_mem.mpr c,?_⟩
      rcases List.mem_append.mp ed with z | z
      · exact of_decide_eq_true (List.mem_filter.mp z).2
      · split at z
        · have:=List.mem_singleton.mp z
          omega
        · cases z
    · split at ed
      · rename_i c
        rcases List.mem_append.mp ed with z | z
        · obtain ⟨i,hi,q⟩:=List.mem_map.mp z
          have:=rgI_mem.mp hi
          omega
        · split at z
          · rename_i d
            have z:=List.mem_singleton.mp z
            exact .inr ⟨by omega,by rw [z]; exact d⟩
          · cases z
      · cases ed
  · have hi':=rgI_mem.mp hi
    obtain ⟨t,ht⟩:=hX i (rgI_mem.mpr (by omega))
    by_cases c:t<b
    · have:=rgI_mem.mp (inV t i ht)
      exact .inl ⟨t,rgI_mem.mpr (by omega),ht⟩
    · have ed:=F.edge t i ht
      unfold offs at ed
      rw [if_pos hi'] at ed
      rcases List.mem_append.mp ed with z | z
      · have:=rgI_mem.mp (List.mem_filter.mp z).1
        omega
      · split at z
        · rename_i d; exact .inr d
        · cases z
theorem smI_lt {f g:Int→Int} {a:Int}:∀ {l:List Int},(∀ t∈l,f t≤g t)→a∈l→f a<g a→smI l f<smI l g
  | [],_,h,_=>by cases h
  | x::l,hle,h,hlt=>by
    rw [smI_cons,smI_cons]
    have h1:=hle x List.mem_cons_self
    have h2:=smI_le (l:=l) fun t ht=>hle t (List.mem_cons_of_mem _ ht)
    rcases List.mem_cons.mp h with z | z
    · subst z; omega
    · have:=smI_lt (l:=l) (fun t ht=>hle t (List.mem_cons_of_mem _ ht)) z hlt
      omega
section
open Classical
def Sel (h b:Nat) (T:Tk) (i j:Int):Prop:=j∈rgI b∧i∈rgI h∧getZ T j=some i
noncomputable def after (h b:Nat) (l:Int→Int→Int) (T:Tk) (H:Int) (i j:Int):Int:=if Sel h b T i j then l i j-H else l i j
noncomputable def loose (h b:Nat) (l:Int→Int→Int) (R:Int):Int:=smI (rgI h) (fun i=>smI (rgI b) fun j=>if 0<l i j then 1 else 0)+smI (rgI h) (fun i=>if rowS b l i<R then 1 else 0)+smI (rgI b) (fun j=>if colS h l j<R then 1 else 0)
structure Long (h b:Nat) (l:Int→Int→Int) (R:Int) (T:Tk) (H:Int):Prop where
  pair:∀ i j,Sel h b T i j→H≤l i j
  hand:∀ i,i∈rgI h→(∀ j,¬ Sel h b T i j)→H≤R-rowS b l i
  bench:∀ j,j∈rgI b→(∀ i,¬ Sel h b T i j)→H≤R-colS h l j
  at_:(∃ i j,Sel h b T i j∧H=l i j)∨(∃ i,i∈rgI h∧(∀ j,¬ Sel h b T i j)∧H=R-rowS b l i)∨∃ j,j∈rgI b∧(∀ i,¬ Sel h b T i j)∧H=R-colS h l j
theorem Long.ge {h b:Nat} {l:Int→Int→Int} {R:Int} {T:Tk} {H:Int} (m:Match h b l R T) (g:Long h b l R T H):1≤H:=by
  rcases g.at_ with ⟨i,j,s,e⟩ | ⟨i,hi,n,e⟩ | ⟨j,hj,n,e⟩
  · obtain ⟨u,hu,q⟩:=m.own j s.1
    rw [s.2.2] at hu
    cases hu
    have hi:=rgI_mem.mp s.2.1
    rcases q with q | q
    · have:=q.2; omega
    · have:=rgI_mem.mp s.1; omega
  · rcases m.free i hi with ⟨j,hj,q⟩ | q
    · exact absurd ⟨hj,hi,q⟩ (n j)
    · omega
  · obtain ⟨u,hu,q⟩:=m.own j hj
    rcases q with q | q
    · exact absurd ⟨hj,q.1,hu⟩ (n u)
    · omega
theorem row_after {h b:Nat} {l:Int→Int→Int} {T:Tk} {H:Int} (inj:∀ s t u,getZ T s=some u→getZ T t=some u→s=t) {i j0:Int} (s:Sel h b T i j0):rowS b (after h b l T H) i=rowS b l i-H:=by
  have e:rowS b (after h b l T H) i=smI (rgI b) fun j=>l i j+(if j=j0 then -H else 0):=smI_congr fun j hj=>by
    unfold after
    by_cases c:j=j0
    · rw [if_pos c,c,if_pos s]; omega
    · rw [if_neg c,if_neg (fun z=>c (inj j j0 i z.2.2 s.2.2))]; omega
  rw [e,smI_add,smI_one (rgI_nodup _) s.1]
  rfl
theorem row_after0 {h b:Nat} {l:Int→Int→Int} {T:Tk} {H i:Int} (n:∀ j,¬ Sel h b T i j):rowS b (after h b l T H) i=rowS b l i:=smI_congr fun j hj=>if_neg (n j)
theorem col_after {h b:Nat} {l:Int→Int→Int} {T:Tk} {H:Int} {i0 j:Int} (s:Sel h b T i0 j):colS h (after h b l T H) j=colS h l j-H:=by
  have e:colS h (after h b l T H) j=smI (rgI h) fun i=>l i j+(if i=i0 then -H else 0):=smI_congr fun i hi=>by
    unfold after
    by_cases c:i=i0
    · rw [if_pos c,c,if_pos s]; omega
    · rw [if_neg c,if_neg (fun z=>c (by have:=z.2.2.symm.trans s.2.2; cases this; rfl))]; omega
  rw [e,smI_add,smI_one (rgI_nodup _) s.2.1]
  rfl
theorem col_after0 {h b:Nat} {l:Int→Int→Int} {T:Tk} {H j:Int} (n:∀ i,¬ Sel h b T i j):colS h (after h b l T H) j=colS h l j:=smI_congr fun i hi=>if_neg (n i)
theorem phase_fits {h b:Nat} {l:Int→Int→Int} {R:Int} {T:Tk} {H:Int} (f:Fits h b l R) (m:Match h b l R T) (g:Long h b l R T H):Fits h b (after h b l T H) (R-H):=by
  refine ⟨fun i j=>?_,fun i hi=>?_,fun j hj=>?_⟩
  · unfold after
    split
    · rename_i s; have:=g.pair i j s; omega
    · exact f.pos i j
  · by_cases c:∃ j,Sel h b T i j
    · obtain ⟨j,s⟩:=c
      rw [row_after m.inj s]
      have:=f.row i hi
      omega
    · have n:∀ j,¬ Sel h b T i j:=fun j z=>c ⟨j,z⟩
      rw [row_after0 n]
      have:=g.hand i hi n
      omega
  · by_cases c:∃ i,Sel h b T i j
    · obtain ⟨i,s⟩:=c
      rw [col_after s]
      have:=f.col j hj
      omega
    · have n:∀ i,¬ Sel h b T i j:=fun i z=>c ⟨i,z⟩
      rw [col_after0 n]
      have:=g.bench j hj n
      omega
theorem phase_loose {h b:Nat} {l:Int→Int→Int} {R:Int} {T:Tk} {H:Int} (m:Match h b l R T) (g:Long h b l R T H):loose h b (after h b l T H) (R-H)<loose h b l R:=by
  have hH:=g.ge m
  have c1:∀ i j,(if 0<after h b l T H i j then (1:Int) else 0)≤if 0<l i j then 1 else 0:=fun i j=>by
    unfold after
    split <;> split <;> (try omega) <;> rename_i x y <;> (try split at x) <;> omega
  have c2:∀ i∈rgI h,(if rowS b (after h b l T H) i<R-H then (1:Int) else 0)≤if rowS b l i<R then 1 else 0:=fun i hi=>by
    by_cases c:∃ j,Sel h b T i j
    · obtain ⟨j,s⟩:=c
      rw [row_after m.inj s]
      split <;> split <;> omega
    · rw [row_after0 fun j z=>c ⟨j,z⟩]
      split <;> split <;> omega
  have c3:∀ j∈rgI b,(if colS h (after h b l T H) j<R-H then (1:Int) else 0)≤if colS h l j<R then 1 else 0:=fun j hj=>by
    by_cases c:∃ i,Sel h b T i j
    · obtain ⟨i,s⟩:=c
      rw [col_after s]
      split <;> split <;> omega
    · rw [col_after0 fun i z=>c ⟨i,z⟩]
      split <;> split <;> omega
  have s1:smI (rgI h) (fun i=>smI (rgI b) fun j=>if 0<after h b l T H i j then 1 else 0)≤smI (rgI h) (fun i=>smI (rgI b) fun j=>if 0<l i j then 1 else 0):=smI_le fun i _=>smI_le fun j _=>c1 i j
  have s2:=smI_le c2
  have s3:=smI_le c3
  unfold loose
  rcases g.at_ with ⟨i,j,s,e⟩ | ⟨i,hi,n,e⟩ | ⟨j,hj,n,e⟩
  · have:smI (rgI h) (fun i=>smI (rgI b) fun j=>if 0<after h b l T H i j then 1 else 0)<smI (rgI h) (fun i=>smI (rgI b) fun j=>if 0<l i j then 1 else 0):=by
      refine smI_lt (a:=i) (fun i _=>smI_le fun j _=>c1 i j) s.2.1 (smI_lt (a:=j) (fun j _=>c1 i j) s.1 ?_)
      unfold after
      rw [if_pos s,if_neg (by omega),if_pos (by omega)]
      omega
    omega
  · have:=smI_lt (a:=i) c2 hi (by
      rw [row_after0 n,if_neg (by omega),if_pos (by omega)]
      omega)
    omega
  · have:=smI_lt (a:=j) c3 hj (by
      rw [col_after0 n,if_neg (by omega),if_pos (by omega)]
      omega)
    omega
end
theorem ind_le {p:Prop} [Decidable p]:(if p then (1:Int) else 0)≤1:=by split <;> omega
theorem loose_le (h b:Nat) (l:Int→Int→Int) (R:Int):loose h b l R≤h*b+h+b:=by
  have e1:smI (rgI h) (fun i=>smI (rgI b) fun j=>if 0<l i j then 1 else 0)≤smI (rgI h) fun _=>(b:Int):=smI_le fun i _=>by
    have:=smI_le (l:=rgI b) (f:=fun j=>if 0<l i j then (1:Int) else 0) (g:=fun _=>1) fun j _=>ind_le
    rw [smI_const,rgI_len] at this
    omega
  have e2:=smI_le (l:=rgI h) (f:=fun i=>if rowS b l i<R then (1:Int) else 0) (g:=fun _=>1) fun j _=>ind_le
  have e3:=smI_le (l:=rgI b) (f:=fun j=>if colS h l j<R then (1:Int) else 0) (g:=fun _=>1) fun j _=>ind_le
  rw [smI_const,rgI_len] at e1 e2 e3
  unfold loose
  omega
theorem loose_ge (h b:Nat) (l:Int→Int→Int) (R:Int):0≤loose h b l R:=by
  unfold loose
  have n:∀ {p:Prop} [Decidable p],(0:Int)≤if p then 1 else 0:=by intro p _; split <;> omega
  have e1:0≤smI (rgI h) (fun i=>smI (rgI b) fun j=>if 0<l i j then (1:Int) else 0):=smI_nonneg fun i _=>smI_nonneg fun j _=>n
  have e2:0≤smI (rgI h) (fun i=>if rowS b l i<R then (1:Int) else 0):=smI_nonneg fun i _=>n
  have e3:0≤smI (rgI b) (fun j=>if colS h l j<R then (1:Int) else 0):=smI_nonneg fun i _=>n
  omega
theorem none_left {h b:Nat} {l:Int→Int→Int} (f:Fits h b l 0) {i j:Int} (hi:i∈rgI h) (hj:j∈rgI b):l i j=0:=by
  have h1:=f.row i hi
  have h2:=f.pos i j
  have h3:l i j≤rowS b l i:=by
    have:=smI_sub (A:=[j]) (V:=rgI b) (f:=fun j=>l i j) (by simp) (fun t ht=>by rw [List.mem_singleton.mp ht]; exact hj) fun t _=>f.pos i t
    rw [smI_cons,smI_nil] at this
    unfold rowS
    omega
  omega
abbrev Mx:=List (List Int)
def cel (T:Mx) (i j:Int):Int:=if 0≤i∧0≤j then (T.getD i.toNat []).getD j.toNat 0 else 0
structure Wd (T:Mx) (h b:Nat):Prop where
  len:T.length=h
  wid:∀ r∈T,r.length=b
theorem cel_nat (T:Mx) (i j:Nat):cel T i j=(T.getD i []).getD j 0:=by
  unfold cel
  rw [if_pos ⟨by omega,by omega⟩,Int.toNat_natCast,Int.toNat_natCast]
theorem rgI_map {α:Type} (n:Nat) (f:Int→α):(rgI n).map f=(List.range n).map fun (k:Nat)=>f (k:Int):=by
  unfold rgI
  rw [List.map_map]
  rfl
theorem getD_memM {T:Mx} {i:Nat} (h:i<T.length):T.getD i []∈T:=by
  rw [List.getD_eq_getElem?_getD,List.getElem?_eq_getElem h]
  exact List.getElem_mem h
theorem Wd.row {T:Mx} {h b:Nat} (w:Wd T h b) {i:Nat} (hi:i<h):(T.getD i []).length=b:=w.wid _ (getD_memM (by rw [w.len]; exact hi))
theorem Wd.out {T:Mx} {h b:Nat} (w:Wd T h b) {i j:Int} (n:¬ (i∈rgI h∧j∈rgI b)):cel T i j=0:=by
  unfold cel
  split
  · rename_i c
    by_cases hi:i<h
    · have hj:¬ j<b:=fun hj=>n ⟨rgI_mem.mpr ⟨c.1,hi⟩,rgI_mem.mpr ⟨c.2,hj⟩⟩
      have:=w.row (i:=i.toNat) (by omega)
      rw [List.getD_eq_getElem?_getD (l:=T.getD i.toNat []),List.getElem?_eq_none (by omega)]
      rfl
    · have:=w.len
      rw [List.getD_eq_getElem?_getD (l:=T),List.getElem?_eq_none (by omega)]
      rfl
  · rfl
theorem list_range (l:List Int) {n:Nat} (h:l.length=n):(List.range n).map (fun k=>l.getD k 0)=l:=by
  refine List.ext_getElem (by rw [List.length_map,List.length_range,h]) fun k h1 h2=>?_
  rw [List.getElem_map,List.getElem_range,List.getD_eq_getElem?_getD,List.getElem?_eq_getElem h2]
  rfl
theorem rowS_cel {T:Mx} {h b:Nat} (w:Wd T h b) {i:Nat} (hi:i<h):rowS b (cel T) i=(T.getD i []).sum:=by
  unfold rowS smI
  rw [rgI_map]
  conv=>rhs; rw [← list_range (T.getD i []) (w.row hi)]
  exact congrArg List.sum (List.map_congr_left fun k _=>cel_nat T i k)
theorem colS_cel {T:Mx} {h b:Nat} (w:Wd T h b) (j:Nat):colS h (cel T) j=(T.map fun r=>r.getD j 0).sum:=by
  unfold colS smI
  rw [rgI_map]
  congr 1
  refine List.ext_getElem (by rw [List.length_map,List.length_map,List.length_range,w.len]) fun k h1 h2=>?_
  rw [List.length_map] at h2
  rw [List.getElem_map,List.getElem_map,List.getElem_range,cel_nat,List.getD_eq_getElem?_getD (l:=T),List.getElem?_eq_getElem h2]
  rfl
theorem mx_ext {T U:Mx} {h b:Nat} (w:Wd T h b) (v:Wd U h b) (e:∀ i j:Nat,i<h→j<b→cel T i j=cel U i j):T=U:=by
  refine List.ext_getElem (by rw [w.len,v.len]) fun i h1 h2=>?_
  have hi:i<h:=by rw [← w.len]; exact h1
  have e1:T.getD i []=T[i]:=by rw [List.getD_eq_getElem?_getD,List.getElem?_eq_getElem h1]; rfl
  have e2:U.getD i []=U[i]:=by rw [List.getD_eq_getElem?_getD,List.getElem?_eq_getElem h2]; rfl
  have l1:=w.row hi
  have l2:=v.row hi
  rw [e1] at l1
  rw [e2] at l2
  refine List.ext_getElem (by rw [l1,l2]) fun j g1 g2=>?_
  have:=e i j hi (by omega)
  rw [cel_nat,cel_nat,e1,e2,List.getD_eq_getElem?_getD,List.getD_eq_getElem?_getD,List.getElem?_eq_getElem g1,List.getElem?_eq_getElem g2] at this
  exact this
def upC (T:Mx) (i j:Nat) (v:Int):Mx:=T.set i ((T.getD i []).set j v)
theorem Wd.upC {T:Mx} {h b:Nat} (w:Wd T h b) {i j:Nat} {v:Int} (hi:i<h):Wd (upC T i j v) h b:=by
  refine ⟨by unfold My.upC; rw [List.length_set,w.len],fun r hr=>?_⟩
  unfold My.upC at hr
  rcases List.mem_or_eq_of_mem_set hr with z | z
  · exact w.wid r z
  · rw [z,List.length_set]; exact w.row hi
theorem cel_upC {T:Mx} {h b:Nat} (w:Wd T h b) {i j:Nat} {v:Int} (hi:i<h) (hj:j<b) (i' j':Nat):cel (upC T i j v) i' j'=if i'=i∧j'=j then v else cel T i' j':=by
  rw [cel_nat,cel_nat]
  unfold upC
  have hl:=w.len
  have hr:=w.row hi
  by_cases c:i'=i
  · subst c
    rw [List.getD_eq_getElem?_getD (l:=T.set _ _),List.getElem?_set_self (by omega)]
    show ((T.getD i' []).set j v).getD j' 0=_
    by_cases d:j'=j
    · subst d
      rw [if_pos ⟨rfl,rfl⟩,List.getD_eq_getElem?_getD,List.getElem?_set_self (by omega)]
      rfl
    · rw [if_neg (fun z=>d z.2),List.getD_eq_getElem?_getD,List.getElem?_set_ne (Ne.symm d),← List.getD_eq_getElem?_getD]
  · rw [if_neg (fun z=>c z.1),List.getD_eq_getElem?_getD (l:=T.set _ _),List.getElem?_set_ne (Ne.symm c),← List.getD_eq_getElem?_getD]
abbrev Prs:=List (Int×Int)
def addP (g:Int):Mx→Prs→Mx
  | T,[]=>T
  | T,p::P=>addP g (upC T p.1.toNat p.2.toNat (cel T p.1 p.2+g)) P
def InP (h b:Nat) (P:Prs):Prop:=∀ p∈P,p.1∈rgI h∧p.2∈rgI b
theorem addP_ok {h b:Nat} {g:Int}:∀ {P:Prs} {T:Mx},Wd T h b→InP h b P→P.Nodup→Wd (addP g T P) h b∧∀ i j:Nat,cel (addP g T P) i j=cel T i j+if ((i:Int),(j:Int))∈P then g else 0
  | [],T,w,_,_=>⟨w,fun i j=>by rw [if_neg (by simp),Int.add_zero]; rfl⟩
  | p::P,T,w,hp,nd=>by
    obtain ⟨h1,h2⟩:=List.nodup_cons.mp nd
    obtain ⟨p1,p2⟩:=hp p List.mem_cons_self
    have p1:=rgI_mem.mp p1
    have p2:=rgI_mem.mp p2
    have w1:Wd (upC T p.1.toNat p.2.toNat (cel T p.1 p.2+g)) h b:=w.upC (by omega)
    obtain ⟨k1,k2⟩:=addP_ok (g:=g) (P:=P) w1 (fun q hq=>hp q (List.mem_cons_of_mem _ hq)) h2
    refine ⟨k1,fun i j=>?_⟩
    show cel (addP g (upC T p.1.toNat p.2.toNat (cel T p.1 p.2+g)) P) i j=_
    rw [k2 i j,cel_upC w (by omega) (by omega)]
    by_cases c:i=p.1.toNat∧j=p.2.toNat
    · have e:((i:Int),(j:Int))=p:=Prod.ext (by show (i:Int)=p.1; omega) (by show (j:Int)=p.2; omega)
      rw [if_pos c,e,if_neg h1,if_pos List.mem_cons_self]
      have e1:(i:Int)=p.1:=by omega
      have e2:(j:Int)=p.2:=by omega
      rw [e1,e2]
      omega
    · have e:((i:Int),(j:Int))≠p:=fun z=>c ⟨by rw [← z]; rfl,by rw [← z]; rfl⟩
      rw [if_neg c]
      by_cases d:((i:Int),(j:Int))∈P
      · rw [if_pos d,if_pos (List.mem_cons_of_mem _ d)]
      · rw [if_neg d,if_neg (fun z=>(List.mem_cons.mp z).elim e d)]
abbrev Phs:=List (Int×Prs)
structure PhOk (h b:Nat) (q:Int×Prs):Prop where
  ge:1≤q.1
  inn:InP h b q.2
  n1:(q.2.map (·.1)).Nodup
  n2:(q.2.map (·.2)).Nodup
theorem nd_of_map {α β:Type} {f:α→β}:∀ {l:List α},(l.map f).Nodup→l.Nodup
  | [],_=>List.nodup_nil
  | a::l,h=>by
    rw [List.map_cons] at h
    obtain ⟨h1,h2⟩:=List.nodup_cons.mp h
    exact List.nodup_cons.mpr ⟨fun z=>h1 (List.mem_map_of_mem z),nd_of_map h2⟩
theorem nd_map_on {α β:Type} {f:α→β}:∀ {l:List α},(∀ a∈l,∀ c∈l,f a=f c→a=c)→l.Nodup→(l.map f).Nodup
  | [],_,_=>List.nodup_nil
  | a::l,h,n=>by
    obtain ⟨h1,h2⟩:=List.nodup_cons.mp n
    rw [List.map_cons]
    refine List.nodup_cons.mpr ⟨fun z=>?_,nd_map_on (fun x hx y hy=>h x (List.mem_cons_of_mem _ hx) y (List.mem_cons_of_mem _ hy)) h2⟩
    obtain ⟨c,hc,e⟩:=List.mem_map.mp z
    rw [h a List.mem_cons_self c (List.mem_cons_of_mem _ hc) e.symm] at h1
    exact h1 hc
theorem PhOk.nd {h b:Nat} {q:Int×Prs} (k:PhOk h b q):q.2.Nodup:=nd_of_map k.n1
def sumP (i j:Nat) (tl:Phs):Int:=(tl.map fun q=>if ((i:Int),(j:Int))∈q.2 then q.1 else 0).sum
theorem sumP_app (i j:Nat) (tl:Phs) (q:Int×Prs):sumP i j (tl++[q])=sumP i j tl+if ((i:Int),(j:Int))∈q.2 then q.1 else 0:=by
  unfold sumP
  rw [List.map_append,List.sum_append]
  simp
def layP (M:Mx) (tl:Phs):Mx:=tl.foldl (fun M q=>addP q.1 M q.2) M
theorem layP_ok {h b:Nat}:∀ {tl:Phs} {M:Mx},Wd M h b→(∀ q∈tl,PhOk h b q)→Wd (layP M tl) h b∧∀ i j:Nat,cel (layP M tl) i j=cel M i j+sumP i j tl
  | [],M,w,_=>⟨w,fun i j=>by show cel M i j=cel M i j+0; omega⟩
  | q::tl,M,w,hq=>by
    have k:=hq q List.mem_cons_self
    obtain ⟨w1,e1⟩:=addP_ok (g:=q.1) w k.inn k.nd
    obtain ⟨w2,e2⟩:=layP_ok (tl:=tl) w1 fun x hx=>hq x (List.mem_cons_of_mem _ hx)
    refine ⟨w2,fun i j=>?_⟩
    show cel (layP (addP q.1 M q.2) tl) i j=_
    rw [e2,e1]
    unfold sumP
    rw [List.map_cons,List.sum_cons]
    omega
def tkr (T:Tk) (j:Nat):Int:=(getZ T (j:Int)).getD 0
def prs0 (h b:Nat) (T:Tk):Prs:=((List.range b).filter fun (j:Nat)=>decide (tkr T j<h)).map fun (j:Nat)=>(tkr T j,(j:Int))
theorem prs0_mem {h b:Nat} {l:Int→Int→Int} {R:Int} {T:Tk} (m:Match h b l R T) (i j:Int):(i,j)∈prs0 h b T↔Sel h b T i j:=by
  unfold prs0
  rw [List.mem_map]
  constructor
  · rintro ⟨k,hk,e⟩
    obtain ⟨h1,h2⟩:=List.mem_filter.mp hk
    have h1:=List.mem_range.mp h1
    have h2:=of_decide_eq_true h2
    have e1:tkr T k=i:=congrArg Prod.fst e
    have e2:(k:Int)=j:=congrArg Prod.snd e
    subst e2
    have hj:(k:Int)∈rgI b:=rgI_mem.mpr ⟨by omega,by omega⟩
    obtain ⟨u,hu,q⟩:=m.own k hj
    have eu:tkr T k=u:=by unfold tkr; rw [hu]; rfl
    rw [eu] at h2 e1
    subst e1
    refine ⟨hj,?_,hu⟩
    rcases q with q | q
    · exact q.1
    · omega
  · rintro ⟨hj,hi,e⟩
    have h1:=rgI_mem.mp hj
    have h2:=rgI_mem.mp hi
    have ek:((j.toNat:Nat):Int)=j:=by omega
    have et:tkr T j.toNat=i:=by unfold tkr; rw [ek,e]; rfl
    exact ⟨j.toNat,List.mem_filter.mpr ⟨List.mem_range.mpr (by omega),decide_eq_true (by rw [et]; exact h2.2)⟩,by rw [et,ek]⟩
theorem prs0_n2 (h b:Nat) (T:Tk):((prs0 h b T).map (·.2)).Nodup:=by
  unfold prs0
  rw [List.map_map]
  exact nd_map_on (fun a _ c _ e=>by have:(a:Int)=(c:Int):=e; omega) (List.nodup_range.filter _)
theorem prs_ok {h b:Nat} {l:Int→Int→Int} {R:Int} {T:Tk} {H:Int} (m:Match h b l R T) (g:Long h b l R T H) {P:Prs} (pm:P.Perm (prs0 h b T)):PhOk h b (H,P):=by
  have mem:∀ p∈P,Sel h b T p.1 p.2:=fun p hp=>(prs0_mem m p.1 p.2).mp (pm.mem_iff.mp hp)
  refine ⟨g.ge m,fun p hp=>⟨(mem p hp).2.1,(mem p hp).1⟩,?_,((pm.map (·.2)).nodup_iff).mpr (prs0_n2 h b T)⟩
  refine nd_map_on (fun a ha c hc e=>?_) (pm.nodup_iff.mpr (nd_of_map (prs0_n2 h b T)))
  have s1:=mem a ha
  have s2:=mem c hc
  have e:a.1=c.1:=e
  exact Prod.ext e (m.inj a.2 c.2 a.1 s1.2.2 (by rw [e]; exact s2.2.2))
theorem cel_after {h b:Nat} {T:Mx} (w:Wd T h b) {R:Int} {X:Tk} {H:Int} (m:Match h b (cel T) R X) (g:Long h b (cel T) R X H) {P:Prs} (pm:P.Perm (prs0 h b X)):cel (addP (-H) T P)=after h b (cel T) X H:=by
  have k:=prs_ok m g pm
  obtain ⟨w1,e1⟩:=addP_ok (g:=-H) w k.inn k.nd
  funext i j
  by_cases c:i∈rgI h∧j∈rgI b
  · have ci:=rgI_mem.mp c.1
    have cj:=rgI_mem.mp c.2
    have q:=e1 i.toNat j.toNat
    rw [show ((i.toNat:Nat):Int)=i by omega,show ((j.toNat:Nat):Int)=j by omega] at q
    rw [q]
    unfold after
    by_cases s:Sel h b X i j
    · rw [if_pos s,if_pos (pm.mem_iff.mpr ((prs0_mem m i j).mpr s))]; omega
    · rw [if_neg s,if_neg (fun z=>s ((prs0_mem m i j).mp (pm.mem_iff.mp z)))]; omega
  · rw [w1.out c]
    unfold after
    rw [if_neg (fun s=>c ⟨s.2.1,s.1⟩),w.out c]
def bnds (h b:Nat) (l:Int→Int→Int) (R:Int) (P:Prs):List Int :=
  P.map (fun p=>l p.1 p.2)++((List.range h).filter fun (i:Nat)=>!decide ((i:Int)∈P.map (·.1))).map (fun (i:Nat)=>R-rowS b l (i:Int))++((List.range b).filter fun (j:Nat)=>!decide ((j:Int)∈P.map (·.2))).map (fun (j:Nat)=>R-colS h l (j:Int))
theorem long_of {h b:Nat} {l:Int→Int→Int} {R:Int} {X:Tk} (m:Match h b l R X) {P:Prs} (pm:P.Perm (prs0 h b X)) {M:Int} (hM:M∈bnds h b l R P) (hle:∀ x∈bnds h b l R P,M≤x):Long h b l R X M:=by
  have mem:∀ i j,(i,j)∈P↔Sel h b X i j:=fun i j=>pm.mem_iff.trans (prs0_mem m i j)
  have hh:∀ i:Int,i∈rgI h→((∀ j,¬ Sel h b X i j)↔i∉P.map (·.1)):=fun i _=>by
    constructor
    · intro n z
      obtain ⟨p,hp,e⟩:=List.mem_map.mp z
      exact n p.2 ((mem i p.2).mp (by rw [← e]; exact hp))
    · intro n j s
      exact n (List.mem_map.mpr ⟨(i,j),(mem i j).mpr s,rfl⟩)
  have hb:∀ j:Int,j∈rgI b→((∀ i,¬ Sel h b X i j)↔j∉P.map (·.2)):=fun j _=>by
    constructor
    · intro n z
      obtain ⟨p,hp,e⟩:=List.mem_map.mp z
      exact n p.1 ((mem p.1 j).mp (by rw [← e]; exact hp))
    · intro n i s
      exact n (List.mem_map.mpr ⟨(i,j),(mem i j).mpr s,rfl⟩)
  unfold bnds at hM hle
  refine ⟨fun i j s=>?_,fun i hi n=>?_,fun j hj n=>?_,?_⟩
  · exact hle _ (List.mem_append_left _ (List.mem_append_left _ (List.mem_map.mpr ⟨(i,j),(mem i j).mpr s,rfl⟩)))
  · have hi':=rgI_mem.mp hi
    have e:((i.toNat:Nat):Int)=i:=by omega
    exact hle _ (List.mem_append_left _ (List.mem_append_right _ (List.mem_map.mpr ⟨i.toNat,List.mem_filter.mpr ⟨List.mem_range.mpr (by omega),by rw [e,decide_eq_false ((hh i hi).mp n)]; rfl⟩,by rw [e]⟩)))
  · have hj':=rgI_mem.mp hj
    have e:((j.toNat:Nat):Int)=j:=by omega
    exact hle _ (List.mem_append_right _ (List.mem_map.mpr ⟨j.toNat,List.mem_filter.mpr ⟨List.mem_range.mpr (by omega),by rw [e,decide_eq_false ((hb j hj).mp n)]; rfl⟩,by rw [e]⟩))
  · rcases List.mem_append.mp hM with z | z
    · rcases List.mem_append.mp z with z | z
      · obtain ⟨p,hp,e⟩:=List.mem_map.mp z
        exact .inl ⟨p.1,p.2,(mem p.1 p.2).mp hp,e.symm⟩
      · obtain ⟨k,hk,e⟩:=List.mem_map.mp z
        obtain ⟨k1,k2⟩:=List.mem_filter.mp hk
        have k1:=List.mem_range.mp k1
        have hi:(k:Int)∈rgI h:=rgI_mem.mpr ⟨by omega,by omega⟩
        refine .inr (.inl ⟨k,hi,(hh k hi).mpr ?_,e.symm⟩)
        intro z
        rw [decide_eq_true z] at k2
        cases k2
    · obtain ⟨k,hk,e⟩:=List.mem_map.mp z
      obtain ⟨k1,k2⟩:=List.mem_filter.mp hk
      have k1:=List.mem_range.mp k1
      have hj:(k:Int)∈rgI b:=rgI_mem.mpr ⟨by omega,by omega⟩
      refine .inr (.inr ⟨k,hj,(hb k hj).mpr ?_,e.symm⟩)
      intro z
      rw [decide_eq_true z] at k2
      cases k2
theorem bnds_ne {h b:Nat} {l:Int→Int→Int} {R:Int} {P:Prs} (hh:0<h):bnds h b l R P≠[]:=by
  intro e
  unfold bnds at e
  rw [List.append_eq_nil_iff,List.append_eq_nil_iff] at e
  have e1:=List.map_eq_nil_iff.mp e.1.1
  have e2:=List.map_eq_nil_iff.mp e.1.2
  rw [e1] at e2
  have:(0:Nat)∈(List.range h).filter fun (i:Nat)=>!decide ((i:Int)∈([]:Prs).map (·.1)):=List.mem_filter.mpr ⟨List.mem_range.mpr hh,by simp⟩
  rw [e2] at this
  cases this
def rowA (T:Mx) (b:Nat) (R:Int) (i:Nat):List Int:=((List.range b).filter fun (j:Nat)=>decide (0<cel T i j)).map Int.ofNat++if (T.getD i []).sum<R then [(b:Int)+i] else []
def rowB (T:Mx) (b:Nat) (R:Int) (j:Nat):List Int:=(List.range T.length).map (fun (i:Nat)=>(b:Int)+i)++if (T.map fun r=>r.getD j 0).sum<R then [(j:Int)] else []
def offR (T:Mx) (b:Nat) (R:Int):List (List Int):=(List.range T.length).map (rowA T b R)++(List.range b).map (rowB T b R)
theorem offR_len (T:Mx) (b:Nat) (R:Int):(offR T b R).length=T.length+b:=by unfold offR; rw [List.length_append,List.length_map,List.length_map,List.length_range,List.length_range]
theorem offOf_offR {T:Mx} {h b:Nat} {R:Int} (w:Wd T h b):offOf (offR T b R)=offs h b (cel T) R:=by
  funext x
  have hl:=w.len
  unfold offOf offs offR
  by_cases c:0≤x
  · rw [if_pos c,List.getD_eq_getElem?_getD]
    have ex:((x.toNat:Nat):Int)=x:=by omega
    by_cases d:x<h
    · rw [if_pos ⟨c,d⟩,List.getElem?_append_left (by rw [List.length_map,List.length_range]; omega),List.getElem?_map,List.getElem?_range (by omega)]
      show rowA T b R x.toNat=_
      unfold rowA
      have rs:=rowS_cel w (i:=x.toNat) (by omega)
      rw [ex] at rs
      rw [rs,ex]
      congr 1
      unfold rgI
      rw [List.filter_map]
      rfl
    · rw [if_neg (fun z=>d z.2),List.getElem?_append_right (by rw [List.length_map,List.length_range]; omega),List.length_map,List.length_range,List.getElem?_map]
      by_cases d2:x<h+b
      · rw [if_pos ⟨by omega,d2⟩,List.getElem?_range (by omega)]
        show rowB T b R (x.toNat-T.length)=_
        unfold rowB
        have cs:=colS_cel w (x.toNat-T.length)
        have e3:((x.toNat-T.length:Nat):Int)=x-h:=by omega
        rw [e3] at cs
        rw [cs,e3,rgI_map,hl]
      · rw [if_neg (fun z=>d2 z.2),List.getElem?_eq_none (by rw [List.length_range]; omega)]
        rfl
  · rw [if_neg c,if_neg (fun z=>c z.1),if_neg (fun z=>by omega)]
theorem offR_ok {T:Mx} {h b:Nat} {R:Int} (w:Wd T h b) (h6:h≤6) (b6:b≤6):OffOk (offR T b R):=by
  have hl:=w.len
  have hin:∀ r∈offR T b R,∃ x:Nat,r=offOf (offR T b R) x:=fun r hr=>by
    obtain ⟨x,hx⟩:=List.getElem?_of_mem hr
    refine ⟨x,?_⟩
    unfold offOf
    rw [if_pos (by omega),Int.toNat_natCast,List.getD_eq_getElem?_getD,hx]
    rfl
  refine ⟨by rw [offR_len]; omega,fun r hr=>?_,rgI (b+h),by rw [rgI_len]; omega,fun r hr t ht=>?_⟩
  · unfold offR at hr
    rcases List.mem_append.mp hr with z | z
    · obtain ⟨i,_,rfl⟩:=List.mem_map.mp z
      unfold rowA
      have:=List.length_filter_le (fun (j:Nat)=>decide (0<cel T i j)) (List.range b)
      rw [List.length_range] at this
      rw [List.length_append,List.length_map]
      split <;> simp <;> omega
    · obtain ⟨j,_,rfl⟩:=List.mem_map.mp z
      unfold rowB
      rw [List.length_append,List.length_map,List.length_range]
      split <;> simp <;> omega
  · obtain ⟨x,e⟩:=hin r hr
    rw [e,offOf_offR w] at ht
    exact offs_in _ t ht
theorem ev_en {a:DE} {ρ:Rho} {ds:List D} (h:asL a ρ=some ds):dEn a ρ=some (enL ds):=by unfold dEn; rw [h]
theorem len_map (xs:List Int):lenD (.lst (xs.map D.int))=some (.int (xs.length:Int)):=by show some (D.int ((xs.map D.int).length:Nat))=_; rw [List.length_map]
theorem ixL {xs:List D} {a:Nat} {d:D} (h:xs[a]?=some d):ixD (.lst xs) (a:Int)=some d:=by
  have hl:=(List.getElem?_eq_some_iff.mp h).1
  show atI xs (a:Int)=some d
  unfold atI
  rw [ixN_in (by omega) (by omega),Int.toNat_natCast]
  exact h
theorem row_get {T:Mx} {i:Nat} (h:i<T.length):(T.map fun r=>D.lst (r.map D.int))[i]?=some (.lst ((T.getD i []).map D.int)):=by
  rw [List.getElem?_map,List.getElem?_eq_getElem h,List.getD_eq_getElem?_getD,List.getElem?_eq_getElem h]
  rfl
theorem cell_ev {T:Mx} {h b:Nat} (w:Wd T h b) {i j:Nat} (hi:i<h) (hj:j<b) {ρ:Rho} {x y z:DE} (hx:x ρ=some (rowsD T)) (hy:y ρ=some (.int (i:Int))) (hz:z ρ=some (.int (j:Int))):dIx (dIx x y) z ρ=some (.int (cel T i j)):=by
  have hl:=w.len
  have hr:=w.row hi
  rw [cel_nat]
  refine ev_ix (ev_ix hx hy (ixL (row_get (by omega)))) hz ?_
  have:=ixI (ns:=T.getD i []) (i:=(j:Int)) (by omega) (by omega)
  rw [Int.toNat_natCast] at this
  exact this
theorem rg_ev {ρ:Rho} {a:DE} {n:Nat} (h:a ρ=some (.int (n:Int))) (hn:n≤1000):dRg1 a ρ=some ((List.range n).map fun (k:Nat)=>D.int (k:Int)):=by
  have hline:sizeLine=16777216:=sizeLine_eq
  rw [ev_rg1 h ⟨by omega,by omega⟩,Int.toNat_natCast]
  unfold upL
  congr 1
  exact List.map_congr_left fun k _=>by rw [Int.zero_add]
theorem rsum_get {T:Mx} {k:Nat} {x:Int} (h:(rsum T)[k]?=some x):k<T.length∧x=(T.getD k []).sum:=by
  unfold rsum at h
  rw [List.getElem?_map] at h
  obtain ⟨r,hr,rfl⟩:=Option.map_eq_some_iff.mp h
  refine ⟨(List.getElem?_eq_some_iff.mp hr).1,?_⟩
  rw [List.getD_eq_getElem?_getD,hr]
  rfl
theorem cols_get {T:Mx} {k:Nat} {x:Int} (h:(cols T)[k]?=some x):k<wdt T∧x=(T.map fun r=>r.getD k 0).sum:=by
  unfold cols at h
  rw [List.getElem?_map] at h
  obtain ⟨r,hr,rfl⟩:=Option.map_eq_some_iff.mp h
  have hk:=(List.getElem?_eq_some_iff.mp hr).1
  rw [List.length_range] at hk
  rw [List.getElem?_range hk] at hr
  cases hr
  exact ⟨hk,rfl⟩
theorem cols_len (T:Mx):(cols T).length=wdt T:=by unfold cols; rw [List.length_map,List.length_range]
theorem rsum_len (T:Mx):(rsum T).length=T.length:=List.length_map ..
theorem range_snoc {α:Type} (n:Nat) (f:Nat→α):(List.range (n+1)).map f=(List.range n).map f++[f n]:=by rw [List.range_succ,List.map_append]; rfl
theorem set_snoc {α:Type} {l:List α} {x y:α} {n:Nat} (h:l.length=n):(l++[x]).set n y=l++[y]:=by
  subst h
  rw [List.set_append_right _ _ (Nat.le_refl _),Nat.sub_self]
  rfl
theorem get_snoc {α:Type} {l:List α} {x:α} {n:Nat} (h:l.length=n):(l++[x])[n]?=some x:=by
  subst h
  rw [List.getElem?_append_right (Nat.le_refl _),Nat.sub_self]
  rfl
theorem offers {T:Mx} {h b:Nat} {R:Int} (w:Wd T h b) (hb:wdt T=b) (h6:h≤6) (b6:b≤6):F_offers [rowsD T,.int R]=some (rowsD (offR T b R)):=by
  have hline:sizeLine=16777216:=sizeLine_eq
  have hl:=w.len
  have e1:=loads (T:=T) (fun r hr=>by rw [hb]; exact w.wid r hr) (by omega)
  refine run_eqF F_offers_def ?_
  rw [st_offers]
  unfold B_offers
  refine wp_seq (wp_set (ev_call (ev_cons rfl rfl) e1) ?_)
  dsimp only [List.set_cons_succ,List.set_cons_zero]
  refine wp_seq (wp_set (d:=.int (h:Int)) (ev_f1 (ev_ix rfl rfl rfl) (by rw [len_map,rsum_len,hl])) ?_)
  dsimp only [List.set_cons_succ,List.set_cons_zero]
  refine wp_seq (wp_set (d:=.int (b:Int)) (ev_f1 (ev_ix rfl rfl rfl) (by rw [len_map,cols_len,hb])) ?_)
  dsimp only [List.set_cons_succ,List.set_cons_zero]
  refine wp_seq (wp_setM (rows:=[]) rfl (by show 5<9; decide) ?_)
  dsimp only [List.set_cons_succ,List.set_cons_zero]
  generalize hS:D.tup [.lst ((rsum T).map D.int),.lst ((cols T).map D.int)]=S
  have s0:∀ ρ:Rho,dVarI 2 ρ=some S→dIx (dVarI 2) (dC (.int 0)) ρ=some (.lst ((rsum T).map D.int)):=fun ρ h=>ev_ix h rfl (by rw [← hS]; rfl)
  have s1:∀ ρ:Rho,dVarI 2 ρ=some S→dIx (dVarI 2) (dC (.int 1)) ρ=some (.lst ((cols T).map D.int)):=fun ρ h=>ev_ix h rfl (by rw [← hS]; rfl)
  refine wp_seq (wp_for (ds:=enL ((rsum T).map D.int)) (ev_en (ev_asL (s0 _ rfl) rfl)) (fun k ρ=>∃ v6 v7 v8:Sl,ρ=[.bo (rowsD T),.bo (.int R),.pu S,.pu (.int (h:Int)),.pu (.int (b:Int)),.om ((List.range k).map fun i=>(rowA T b R i).map D.int),v6,v7,v8]) ⟨_,_,_,rfl⟩ ?_ ?_)
  · rintro k d ρ hd ⟨v6,v7,v8,rfl⟩
    obtain ⟨e,he,rfl⟩:=enL_get hd
    rw [List.getElem?_map] at he
    obtain ⟨x,hx,rfl⟩:=Option.map_eq_some_iff.mp he
    obtain ⟨hk,ex⟩:=rsum_get hx
    refine ⟨[.bo (rowsD T),.bo (.int R),.pu S,.pu (.int (h:Int)),.pu (.int (b:Int)),.om ((List.range k).map fun i=>(rowA T b R i).map D.int),.pu (.int (k:Int)),.pu (.int x),v8],rfl,?_⟩
    have ec:dComp 1 [0,6] (dRg1 (dVar 4)) (gN true 0) (dT (dGt (dIx (dIx (dVar 1) (dVar 2)) (dVar 0)) (dC (.int 0)))) (dVarI 0) [.bo (rowsD T),.bo (.int R),.pu S,.pu (.int (h:Int)),.pu (.int (b:Int)),.om ((List.range k).map fun i=>(rowA T b R i).map D.int),.pu (.int (k:Int)),.pu (.int x),v8]=some (((List.range b).filter fun (j:Nat)=>decide (0<cel T k j)).map fun (j:Nat)=>D.int (j:Int)) :=
      ev_compA (fun (j:Nat)=>D.int (j:Int)) (rg_ev rfl (by omega)) (fun (j:Nat)=>decide (0<cel T k j)) (fun (j:Nat)=>D.int (j:Int)) fun j hj=>by
        have hj:=List.mem_range.mp hj
        refine ⟨[.pu (.int (j:Int)),.bo (rowsD T),.pu (.int (k:Int))],rfl,ev_t (ev_gt (cell_ev w (by omega) hj rfl rfl rfl) rfl),fun _=>rfl⟩
    refine wp_seq (wp_appM rfl ec (by rw [List.length_map,List.length_range]; omega) ?_)
    dsimp only [List.set_cons_succ,List.set_cons_zero]
    have hlen:((List.range k).map fun i=>(rowA T b R i).map D.int).length=k:=by rw [List.length_map,List.length_range]
    refine wp_ifp (ev_t (ev_lt rfl rfl)) (fun c=>?_) fun c=>wp_pass ⟨.pu (.int (k:Int)),.pu (.int x),v8,?_⟩
    · refine wp_app2 (n:=(k:Int)) rfl rfl (by rw [List.length_append,hlen]; exact ixN_in (by omega) (by simp; omega)) (by rw [Int.toNat_natCast]; exact get_snoc hlen) (ev_add rfl rfl) ?_ ⟨.pu (.int (k:Int)),.pu (.int x),v8,?_⟩
      · have:=List.length_filter_le (fun (j:Nat)=>decide (0<cel T k j)) (List.range b)
        rw [List.length_range] at this
        rw [List.length_map]; omega
      · dsimp only [List.set_cons_succ,List.set_cons_zero]
        rw [Int.toNat_natCast,set_snoc hlen,range_snoc]
        have:(rowA T b R k).map D.int=(((List.range b).filter fun (j:Nat)=>decide (0<cel T k j)).map fun (j:Nat)=>D.int (j:Int))++[D.int ((b:Int)+(k:Int))]:=by
          unfold rowA
          rw [if_pos (by rw [← ex]; exact c),List.map_append,List.map_map]
          rfl
        rw [this]
    · rw [range_snoc]
      have:(rowA T b R k).map D.int=(((List.range b).filter fun (j:Nat)=>decide (0<cel T k j)).map fun (j:Nat)=>D.int (j:Int)):=by
        unfold rowA
        rw [if_neg (by rw [← ex]; exact c),List.append_nil,List.map_map]
        rfl
      rw [this]
  rintro ρ ⟨v6,v7,v8,rfl⟩
  have hen:(enL ((rsum T).map D.int)).length=h:=by unfold enL; rw [List.length_mapIdx,List.length_map,rsum_len,hl]
  rw [hen]
  refine wp_seq (wp_for (ds:=enL ((cols T).map D.int)) (ev_en (ev_asL (s1 _ rfl) rfl)) (fun k ρ=>∃ v6 v7 v8:Sl,ρ=[.bo (rowsD T),.bo (.int R),.pu S,.pu (.int (h:Int)),.pu (.int (b:Int)),.om (((List.range h).map fun i=>(rowA T b R i).map D.int)++(List.range k).map fun i=>(rowB T b R i).map D.int),v6,v7,v8]) ⟨_,_,_,by rw [List.range_zero,List.map_nil,List.append_nil]⟩ ?_ ?_)
  · rintro k d ρ hd ⟨v6,v7,v8,rfl⟩
    obtain ⟨e,he,rfl⟩:=enL_get hd
    rw [List.getElem?_map] at he
    obtain ⟨x,hx,rfl⟩:=Option.map_eq_some_iff.mp he
    obtain ⟨hk,ex⟩:=cols_get hx
    rw [hb] at hk
    refine ⟨[.bo (rowsD T),.bo (.int R),.pu S,.pu (.int (h:Int)),.pu (.int (b:Int)),.om (((List.range h).map fun i=>(rowA T b R i).map D.int)++(List.range k).map fun i=>(rowB T b R i).map D.int),v6,.pu (.int x),.pu (.int (k:Int))],rfl,?_⟩
    have ec:dComp 1 [4] (dRg1 (dVar 3)) (gN true 0) dTrue (dAdd (dVar 1) (dVar 0)) [.bo (rowsD T),.bo (.int R),.pu S,.pu (.int (h:Int)),.pu (.int (b:Int)),.om (((List.range h).map fun i=>(rowA T b R i).map D.int)++(List.range k).map fun i=>(rowB T b R i).map D.int),v6,.pu (.int x),.pu (.int (k:Int))]=some ((List.range h).map fun (i:Nat)=>D.int ((b:Int)+(i:Int))) :=
      ev_compA0 (fun (j:Nat)=>D.int (j:Int)) (rg_ev rfl (by omega)) (fun (i:Nat)=>D.int ((b:Int)+(i:Int))) fun i _=>⟨[.pu (.int (i:Int)),.pu (.int (b:Int))],rfl,ev_add rfl rfl⟩
    have hlen:(((List.range h).map fun i=>(rowA T b R i).map D.int)++(List.range k).map fun i=>(rowB T b R i).map D.int).length=h+k:=by rw [List.length_append,List.length_map,List.length_range,List.length_map,List.length_range]
    refine wp_seq (wp_appM rfl ec (by rw [hlen]; omega) ?_)
    dsimp only [List.set_cons_succ,List.set_cons_zero]
    refine wp_ifp (ev_t (ev_lt rfl rfl)) (fun c=>?_) fun c=>wp_pass ⟨v6,.pu (.int x),.pu (.int (k:Int)),?_⟩
    · have et:(((h:Int)+(k:Int)).toNat)=h+k:=by omega
      refine wp_app2 (n:=(h:Int)+(k:Int)) rfl (ev_add rfl rfl) (by rw [List.length_append,hlen]; exact ixN_in (by omega) (by simp; omega)) (by rw [et]; exact get_snoc hlen) rfl ?_ ⟨v6,.pu (.int x),.pu (.int (k:Int)),?_⟩
      · rw [List.length_map,List.length_range]; omega
      · dsimp only [List.set_cons_succ,List.set_cons_zero]
        rw [et,set_snoc hlen,range_snoc,List.append_assoc]
        have:(rowB T b R k).map D.int=((List.range h).map fun (i:Nat)=>D.int ((b:Int)+(i:Int)))++[D.int (k:Int)]:=by
          unfold rowB
          rw [if_pos (by rw [← ex]; exact c),List.map_append,List.map_map,hl]
          rfl
        rw [this]
    · rw [range_snoc,List.append_assoc]
      have:(rowB T b R k).map D.int=(List.range h).map fun (i:Nat)=>D.int ((b:Int)+(i:Int)):=by
        unfold rowB
        rw [if_neg (by rw [← ex]; exact c),List.append_nil,List.map_map,hl]
        rfl
      rw [this]
  rintro ρ ⟨v6,v7,v8,rfl⟩
  have hen2:(enL ((cols T).map D.int)).length=b:=by unfold enL; rw [List.length_mapIdx,List.length_map,cols_len,hb]
  rw [hen2]
  refine wp_frz ?_
  dsimp only [frz,List.getD_cons_succ,List.getD_cons_zero,List.set_cons_succ,List.set_cons_zero]
  refine wp_ret rfl ?_
  unfold rowsD offR
  rw [hl,List.map_append,List.map_append,List.map_map,List.map_map,List.map_map,List.map_map]
  rfl
def prD (p:Int×Int):D:=lstD [p.1,p.2]
def prsD (P:Prs):D:=.lst (P.map prD)
theorem srt_pairs (Q:Prs):∃ P:Prs,P.Perm Q∧srtZ (Q.map fun p=>[p.1,p.2])=P.map fun p=>[p.1,p.2]:=by
  have pm:=srtZ_perm (Q.map fun p=>[p.1,p.2])
  refine ⟨(srtZ (Q.map fun p=>[p.1,p.2])).map fun z=>(z.getD 0 0,z.getD 1 0),?_,?_⟩
  · have:=pm.map fun z=>(z.getD 0 0,z.getD 1 0)
    rw [List.map_map] at this
    have e:Q.map ((fun z:List Int=>(z.getD 0 0,z.getD 1 0))∘fun p:Int×Int=>[p.1,p.2])=Q:=by
      conv=>rhs; rw [← List.map_id Q]
      exact List.map_congr_left fun p _=>rfl
    rw [e] at this
    exact this
  · rw [List.map_map]
    conv=>lhs; rw [← List.map_id (srtZ _)]
    refine List.map_congr_left fun z hz=>?_
    obtain ⟨p,_,rfl⟩:=List.mem_map.mp (pm.mem_iff.mp hz)
    rfl
theorem urgent {T:Mx} {h b:Nat} {R:Int} (w:Wd T h b) (hb:wdt T=b) (h0:0<h) (h6:h≤6) (b6:b≤6) {X:Tk} (eX:takeAll (offs h b (cel T) R) 14 (rgI (h+b)) []=some X) (m:Match h b (cel T) R X) :
    ∃ P:Prs,F_urgent_pairs [rowsD T,.int R]=some (prsD P)∧P.Perm (prs0 h b X):=by
  have hline:sizeLine=16777216:=sizeLine_eq
  have hl:=w.len
  have e1:=offers (R:=R) w hb h6 b6
  have e2:F_taker_of_each [rowsD (offR T b R)]=some (.dct X):=F_taker_eq (offR_ok w h6 b6) (by rw [offOf_offR w,offR_len,hl]; exact eX)
  obtain ⟨P,pm,es⟩:=srt_pairs (prs0 h b X)
  refine ⟨P,?_,pm⟩
  refine run_eqF F_urgent_pairs_def ?_
  rw [st_urgent_pairs]
  unfold B_urgent_pairs
  refine wp_seq (wp_set (ev_call (ev_cons (ev_call (ev_cons rfl (ev_cons rfl rfl)) e1) rfl) e2) ?_)
  dsimp only [List.set_cons_succ,List.set_cons_zero]
  have er:(T.getD 0 []).length=b:=w.row h0
  refine wp_seq (wp_set (d:=.int (b:Int)) (ev_f1 (ev_ix rfl rfl (by have:=ixL (row_get (T:=T) (i:=0) (by omega)); exact this)) (by rw [len_map,er])) ?_)
  dsimp only [List.set_cons_succ,List.set_cons_zero]
  have ec:dComp 1 [2,0] (dRg1 (dVar 3)) (gN true 0) (dT (dLt (dGetD (dVar 1) (dVar 0)) (dF1 lenD (dVar 2)))) (dLst (dCons (dGetD (dVar 1) (dVar 0)) (dCons (dVarI 0) dNil))) [.bo (rowsD T),.bo (.int R),.pu (.dct X),.pu (.int (b:Int)),.un]=some (((List.range b).filter fun (j:Nat)=>decide (tkr X j<h)).map fun (j:Nat)=>prD (tkr X j,(j:Int))) :=
    ev_compA (fun (j:Nat)=>D.int (j:Int)) (rg_ev rfl (by omega)) (fun (j:Nat)=>decide (tkr X j<h)) (fun (j:Nat)=>prD (tkr X j,(j:Int))) fun j hj=>by
      have hj:=List.mem_range.mp hj
      obtain ⟨u,hu,_⟩:=m.own (j:Int) (rgI_mem.mpr ⟨by omega,by omega⟩)
      have eu:tkr X j=u:=by unfold tkr; rw [hu]; rfl
      rw [eu]
      have eg:∀ ρ:Rho,dVar 1 ρ=some (.dct X)→dVar 0 ρ=some (.int (j:Int))→dGetD (dVar 1) (dVar 0) ρ=some (.int u):=fun ρ h1 h2=>ev_getD h1 h2 hu
      refine ⟨[.pu (.int (j:Int)),.pu (.dct X),.bo (rowsD T)],rfl,ev_t (ev_lt (eg _ rfl rfl) (ev_f1 rfl ?_)),fun _=>ev_lst (ev_cons (eg _ rfl rfl) (ev_cons rfl rfl))⟩
      show some (D.int ((T.map fun r=>D.lst (r.map D.int)).length:Nat))=_
      rw [List.length_map,hl]
  refine wp_seq (wp_set (ev_lst ec) ?_)
  dsimp only [List.set_cons_succ,List.set_cons_zero]
  have ez:(((List.range b).filter fun (j:Nat)=>decide (tkr X j<h)).map fun (j:Nat)=>prD (tkr X j,(j:Int)))=((prs0 h b X).map fun p=>[p.1,p.2]).map lstD:=by
    unfold prs0
    rw [List.map_map,List.map_map]
    rfl
  rw [ez]
  have ln:(prs0 h b X).length≤b:=by
    have:=List.length_filter_le (fun (j:Nat)=>decide (tkr X j<h)) (List.range b)
    rw [List.length_range] at this
    unfold prs0
    rw [List.length_map]
    exact this
  refine wp_ret (ev_lst (dSrtL_of (ev_asL rfl rfl) (by rw [List.length_map]; omega))) ?_
  rw [es,List.map_map]
  rfl
theorem enum_ev {α:Type} {ρ:Rho} {a:DE} {xs:List Int} (ha:a ρ=some (.lst (xs.map D.int))):dEn a ρ=some ((List.range xs.length).map fun (i:Nat)=>D.tup [.int (i:Int),.int (xs.getD i 0)]):=by
  rw [ev_en (ev_asL ha rfl)]
  congr 1
  unfold enL
  refine List.ext_getElem (by rw [List.length_mapIdx,List.length_map,List.length_map,List.length_range]) fun k h1 h2=>?_
  rw [List.length_map,List.length_range] at h2
  rw [List.getElem_mapIdx,List.getElem_map,List.getElem_map,List.getElem_range,List.getD_eq_getElem?_getD,List.getElem?_eq_getElem h2]
  rfl
theorem longest {T:Mx} {h b:Nat} {R:Int} (w:Wd T h b) (hb:wdt T=b) (h0:0<h) (h6:h≤6) (b6:b≤6) {X:Tk} (m:Match h b (cel T) R X) {P:Prs} (pm:P.Perm (prs0 h b X)) :
    ∃ M:Int,F_longest_hours [rowsD T,.int R,prsD P]=some (.int M)∧Long h b (cel T) R X M:=by
  have hline:sizeLine=16777216:=sizeLine_eq
  have hl:=w.len
  have e1:=loads (T:=T) (fun r hr=>by rw [hb]; exact w.wid r hr) (by omega)
  have inn:InP h b P:=fun p hp=>by
    have:=(prs0_mem m p.1 p.2).mp (pm.mem_iff.mp hp)
    exact ⟨this.2.1,this.1⟩
  have lP:P.length≤6:=by
    have:=pm.length_eq
    have:=List.length_filter_le (fun (j:Nat)=>decide (tkr X j<h)) (List.range b)
    rw [List.length_range] at this
    unfold prs0 at *
    rw [List.length_map] at *
    omega
  obtain ⟨x,r,eB⟩:∃ x r,bnds h b (cel T) R P=x::r:=by
    cases e:bnds h b (cel T) R P with
    | nil=>exact absurd e (bnds_ne h0)
    | cons x r=>exact ⟨x,r,rfl⟩
  refine ⟨minL x r,?_,long_of m pm (by rw [eB]; exact (minL_spec r x).1) fun y hy=>(minL_spec r x).2 y (by rw [← eB]; exact hy)⟩
  refine run_eqF F_longest_hours_def ?_
  rw [st_longest_hours]
  unfold B_longest_hours
  refine wp_seq (wp_set (ev_call (ev_cons rfl rfl) e1) ?_)
  dsimp only [List.set_cons_succ,List.set_cons_zero]
  generalize hS:D.tup [.lst ((rsum T).map D.int),.lst ((cols T).map D.int)]=S
  have s0:∀ ρ:Rho,dVarI 3 ρ=some S→dIx (dVarI 3) (dC (.int 0)) ρ=some (.lst ((rsum T).map D.int)):=fun ρ h=>ev_ix h rfl (by rw [← hS]; rfl)
  have s1:∀ ρ:Rho,dVarI 3 ρ=some S→dIx (dVarI 3) (dC (.int 1)) ρ=some (.lst ((cols T).map D.int)):=fun ρ h=>ev_ix h rfl (by rw [← hS]; rfl)
  have hw:∀ ρ:Rho,dVar 2 ρ=some (prsD P)→asL (dVar 2) ρ=some (P.map prD):=fun ρ h=>ev_asL h rfl
  refine wp_seq (wp_set (d:=.lst ((P.map (·.1)).map D.int)) (ev_lst ?_) ?_)
  · rw [ev_compA0 prD (hw _ rfl) (fun p=>D.int p.1) fun p _=>⟨[.bo (prD p)],rfl,ev_scal (ev_ix rfl rfl rfl) rfl⟩,List.map_map]
    rfl
  dsimp only [List.set_cons_succ,List.set_cons_zero]
  refine wp_seq (wp_set (d:=.lst ((P.map (·.2)).map D.int)) (ev_lst ?_) ?_)
  · rw [ev_compA0 prD (hw _ rfl) (fun p=>D.int p.2) fun p _=>⟨[.bo (prD p)],rfl,ev_scal (ev_ix rfl rfl rfl) rfl⟩,List.map_map]
    rfl
  dsimp only [List.set_cons_succ,List.set_cons_zero]
  refine wp_seq (wp_setO (ds:=(P.map fun p=>cel T p.1 p.2).map D.int) ?_ (by show 6<7; decide) ?_)
  · rw [ev_compA0 prD (hw _ rfl) (fun p=>D.int (cel T p.1 p.2)) fun p hp=>⟨[.bo (prD p),.bo (rowsD T)],rfl,ev_scal ?_ rfl⟩,List.map_map]
    · rfl
    · obtain ⟨p1,p2⟩:=inn p hp
      have p1:=rgI_mem.mp p1
      have p2:=rgI_mem.mp p2
      have a1:((p.1.toNat:Nat):Int)=p.1:=by omega
      have a2:((p.2.toNat:Nat):Int)=p.2:=by omega
      have:=cell_ev w (i:=p.1.toNat) (j:=p.2.toNat) (by omega) (by omega) (ρ:=[.bo (prD p),.bo (rowsD T)]) (x:=dVar 1) (y:=dIx (dVar 0) (dC (.int 0))) (z:=dIx (dVar 0) (dC (.int 1))) rfl (by rw [a1]; exact ev_ix rfl rfl rfl) (by rw [a2]; exact ev_ix rfl rfl rfl)
      rw [a1,a2] at this
      exact this
  dsimp only [List.set_cons_succ,List.set_cons_zero]
  have lb:∀ (n:Nat) (p:Nat→Bool) (f:Nat→Int),n≤6→(((List.range n).filter p).map fun i=>D.int (f i)).length≤6:=fun n p f hn=>by
    have:=List.length_filter_le p (List.range n)
    rw [List.length_range] at this
    rw [List.length_map]; omega
  refine wp_seq (wp_ext rfl (es:=((List.range h).filter fun (i:Nat)=>!decide ((i:Int)∈P.map (·.1))).map fun (i:Nat)=>D.int (R-rowS b (cel T) (i:Int))) (ev_lst ?_) ?_ ?_)
  · rw [ev_compA (fun (i:Nat)=>D.tup [.int (i:Int),.int ((rsum T).getD i 0)]) (by rw [enum_ev (α:=Nat) (s0 _ rfl),rsum_len,hl]) (fun (i:Nat)=>!decide ((i:Int)∈P.map (·.1))) (fun (i:Nat)=>D.int (R-rowS b (cel T) (i:Int))) fun i hi=>?_]
    have hi:=List.mem_range.mp hi
    refine ⟨[.pu (.int (i:Int)),.pu (.int ((rsum T).getD i 0)),.pu (.lst ((P.map (·.1)).map D.int)),.bo (.int R)],rfl,ev_t (ev_inI (neg:=true) rfl rfl),fun _=>?_⟩
    have:(rsum T).getD i 0=rowS b (cel T) (i:Int):=by
      rw [rowS_cel w hi]
      unfold rsum
      rw [List.getD_eq_getElem?_getD,List.getElem?_map,List.getElem?_eq_getElem (by omega),List.getD_eq_getElem?_getD,List.getElem?_eq_getElem (by omega)]
      rfl
    rw [this]
    exact ev_sub rfl rfl
  · have:=lb h (fun (i:Nat)=>!decide ((i:Int)∈P.map (·.1))) (fun i=>R-rowS b (cel T) (i:Int)) h6
    rw [List.length_map,List.length_map]; omega
  dsimp only [List.set_cons_succ,List.set_cons_zero]
  refine wp_seq (wp_ext rfl (es:=((List.range b).filter fun (j:Nat)=>!decide ((j:Int)∈P.map (·.2))).map fun (j:Nat)=>D.int (R-colS h (cel T) (j:Int))) (ev_lst ?_) ?_ ?_)
  · rw [ev_compA (fun (i:Nat)=>D.tup [.int (i:Int),.int ((cols T).getD i 0)]) (by rw [enum_ev (α:=Nat) (s1 _ rfl),cols_len,hb]) (fun (i:Nat)=>!decide ((i:Int)∈P.map (·.2))) (fun (i:Nat)=>D.int (R-colS h (cel T) (i:Int))) fun i hi=>?_]
    have hi:=List.mem_range.mp hi
    refine ⟨[.pu (.int (i:Int)),.pu (.int ((cols T).getD i 0)),.pu (.lst ((P.map (·.2)).map D.int)),.bo (.int R)],rfl,ev_t (ev_inI (neg:=true) rfl rfl),fun _=>?_⟩
    have:(cols T).getD i 0=colS h (cel T) (i:Int):=by
      rw [colS_cel w i]
      unfold cols
      rw [List.getD_eq_getElem?_getD,List.getElem?_map,List.getElem?_range (by omega)]
      rfl
    rw [this]
    exact ev_sub rfl rfl
  · have h1:=lb h (fun (i:Nat)=>!decide ((i:Int)∈P.map (·.1))) (fun i=>R-rowS b (cel T) (i:Int)) h6
    have h2:=lb b (fun (i:Nat)=>!decide ((i:Int)∈P.map (·.2))) (fun i=>R-colS h (cel T) (i:Int)) b6
    rw [List.length_append,List.length_map,List.length_map]; omega
  dsimp only [List.set_cons_succ,List.set_cons_zero]
  refine wp_ret (ev_f1 (e:=.int (minL x r)) rfl ?_) rfl
  have:(P.map fun p=>cel T p.1 p.2).map D.int++((List.range h).filter fun (i:Nat)=>!decide ((i:Int)∈P.map (·.1))).map (fun (i:Nat)=>D.int (R-rowS b (cel T) (i:Int)))++((List.range b).filter fun (j:Nat)=>!decide ((j:Int)∈P.map (·.2))).map (fun (j:Nat)=>D.int (R-colS h (cel T) (j:Int)))=(x::r).map D.int:=by
    rw [← eB]
    unfold bnds
    rw [List.map_append,List.map_append,List.map_map (l:=List.filter _ _),List.map_map (l:=List.filter _ _)]
    rfl
  rw [this]
  exact ofInts_lst _ (x::r)
theorem flat_ints (ns:List Int):flatL (ns.map D.int)=true:=by unfold flatL; rw [List.all_map]; exact List.all_eq_true.mpr fun _ _=>rfl
def mxS (T:Mx):List (List D):=T.map fun r=>r.map D.int
theorem mxS_D (T:Mx):D.lst ((mxS T).map D.lst)=rowsD T:=by
  unfold mxS rowsD
  rw [List.map_map]
  rfl
theorem mxS_get {T:Mx} {i:Nat} (h:i<T.length):(mxS T)[i]?=some ((T.getD i []).map D.int):=by
  unfold mxS
  rw [List.getElem?_map,List.getElem?_eq_getElem h,List.getD_eq_getElem?_getD,List.getElem?_eq_getElem h]
  rfl
theorem mxS_up (T:Mx) (i j:Nat) (v:Int):(mxS T).set i (((T.getD i []).map D.int).set j (.int v))=mxS (upC T i j v):=by
  unfold mxS upC
  rw [List.map_set,List.map_set]
theorem mxS_len (T:Mx):(mxS T).length=T.length:=List.length_map ..
theorem addP_snoc (g:Int):∀ (P:Prs) (T:Mx) (p:Int×Int),addP g T (P++[p])=upC (addP g T P) p.1.toNat p.2.toNat (cel (addP g T P) p.1 p.2+g)
  | [],T,p=>rfl
  | q::P,T,p=>addP_snoc g P _ p
theorem take_snoc {α:Type} {l:List α} {k:Nat} {x:α} (h:l[k]?=some x):l.take (k+1)=l.take k++[x]:=by
  rw [List.take_add_one,h]
  rfl
def phD (q:Int×Prs):D:=.lst [.int q.1,prsD q.2]
theorem wdt_of {T:Mx} {h b:Nat} (w:Wd T h b) (h0:0<h):wdt T=b:=by
  cases T with
  | nil=>have:=w.len; simp at this; omega
  | cons a r=>exact w.wid a List.mem_cons_self
theorem cel_up (T:Mx) {p:Int×Int} (h1:0≤p.1) (h2:0≤p.2):cel T p.1 p.2=(T.getD p.1.toNat []).getD p.2.toNat 0:=by
  unfold cel
  rw [if_pos ⟨h1,h2⟩]
structure InvP (T0:Mx) (h b:Nat) (top:Int) (T:Mx) (R:Int) (tl:Phs):Prop where
  w:Wd T h b
  f:Fits h b (cel T) R
  r0:0≤R
  nz:0<R→0<h
  ok:∀ q∈tl,PhOk h b q
  sum:(tl.map (·.1)).sum+R=top
  cells:∀ i j:Nat,i<h→j<b→sumP i j tl+cel T i j=cel T0 i j
  few:loose h b (cel T) R+tl.length≤h*b+h+b
theorem InvP.next {T0:Mx} {h b:Nat} {top:Int} {T:Mx} {R:Int} {tl:Phs} (v:InvP T0 h b top T R tl) (hR:0<R) {X:Tk} {H:Int} (m:Match h b (cel T) R X) (g:Long h b (cel T) R X H) {P:Prs} (pm:P.Perm (prs0 h b X)) :
    InvP T0 h b top (addP (-H) T P) (R-H) (tl++[(H,P)])∧loose h b (cel (addP (-H) T P)) (R-H)<loose h b (cel T) R:=by
  have k:=prs_ok m g pm
  obtain ⟨w1,e1⟩:=addP_ok (g:=-H) v.w k.inn k.nd
  have e2:=cel_after v.w m g pm
  have f1:=phase_fits v.f m g
  have l1:=phase_loose m g
  rw [← e2] at f1 l1
  have h0:=v.nz hR
  refine ⟨⟨w1,f1,?_,fun _=>h0,?_,?_,fun i j hi hj=>?_,?_⟩,l1⟩
  · have r:=f1.row 0 (rgI_mem.mpr ⟨Int.le_refl _,by omega⟩)
    have:0≤rowS b (cel (addP (-H) T P)) 0:=smI_nonneg fun j _=>f1.pos 0 j
    omega
  · intro q hq
    rcases List.mem_append.mp hq with z | z
    · exact v.ok q z
    · rw [List.mem_singleton.mp z]; exact k
  · have:=v.sum
    rw [List.map_append,List.sum_append]
    simp only [List.map_cons,List.map_nil,List.sum_cons,List.sum_nil]
    omega
  · have:=v.cells i j hi hj
    rw [sumP_app,e1 i j]
    dsimp only
    split <;> omega
  · have:=v.few
    rw [List.length_append,List.length_singleton]
    omega
theorem InvP.first {T0:Mx} {m:Nat} (t:Tab T0 m):InvP T0 T0.length (wdt T0) (topZ T0) T0 (topZ T0) []:=by
  have hw:=t.w
  have w:Wd T0 T0.length (wdt T0):=⟨rfl,hw⟩
  have le:∀ x∈rsum T0++cols T0,x≤topZ T0:=fun x hx=>(maxL_spec (rsum T0++cols T0) 0).2 x (List.mem_cons_of_mem _ hx)
  refine ⟨w,⟨fun i j=>?_,fun i hi=>?_,fun j hj=>?_⟩,(maxL_spec (rsum T0++cols T0) 0).2 0 List.mem_cons_self,fun z=>?_,fun q hq=>(by cases hq),?_,fun i j _ _=>?_,?_⟩
  · by_cases c:i∈rgI T0.length∧j∈rgI (wdt T0)
    · have ci:=rgI_mem.mp c.1
      have cj:=rgI_mem.mp c.2
      have:=w.row (i:=i.toNat) (by omega)
      unfold cel
      rw [if_pos ⟨ci.1,cj.1⟩]
      refine t.nn _ (getD_memM (T:=T0) (i:=i.toNat) (by omega)) _ ?_
      generalize hr:T0.getD i.toNat []=r at *
      rw [List.getD_eq_getElem?_getD,List.getElem?_eq_getElem (show j.toNat<r.length by omega)]
      exact List.getElem_mem _
    · rw [w.out c]; exact Int.le_refl _
  · have hi:=rgI_mem.mp hi
    have e:((i.toNat:Nat):Int)=i:=by omega
    have:=rowS_cel w (i:=i.toNat) (by omega)
    rw [e] at this
    rw [this]
    exact le _ (List.mem_append_left _ (List.mem_map.mpr ⟨_,getD_memM (by omega),rfl⟩))
  · have hj:=rgI_mem.mp hj
    have e:((j.toNat:Nat):Int)=j:=by omega
    have:=colS_cel w j.toNat
    rw [e] at this
    rw [this]
    exact le _ (List.mem_append_right _ (List.mem_map.mpr ⟨j.toNat,List.mem_range.mpr (by omega),rfl⟩))
  · cases T0 with
    | nil=>exact absurd z (by decide)
    | cons a r=>exact Nat.succ_pos _
  · show 0+topZ T0=_; omega
  · show 0+_=_; omega
  · have:=loose_le T0.length (wdt T0) (cel T0) (topZ T0)
    show _+((0:Nat):Int)≤_
    omega
theorem sub_pairs {h b:Nat} {T:Mx} {H:Int} {P:Prs} (w:Wd T h b) (inn:InP h b P) (nd:P.Nodup) {k:Nat} {p:Int×Int} (hk:P[k]?=some p) :
    Wd (addP H T (P.take k)) h b∧p.1∈rgI h∧p.2∈rgI b:=by
  have hp:=inn p (List.mem_of_getElem? hk)
  refine ⟨(addP_ok (g:=H) w (fun q hq=>inn q (List.mem_of_mem_take hq)) (nd.sublist (List.take_sublist _ _))).1,hp⟩
theorem phases {T0:Mx} {m:Nat} (t:Tab T0 m):∃ tl:Phs,F_phases [rowsD T0]=some (.lst (tl.map phD))∧(∀ q∈tl,PhOk T0.length (wdt T0) q)∧tl.length≤48∧(tl.map (·.1)).sum=topZ T0∧∀ i j:Nat,i<T0.length→j<wdt T0→sumP i j tl=cel T0 i j:=by
  have hline:sizeLine=16777216:=sizeLine_eq
  have hw:=t.w
  have b6:=t.w6
  have h6:=t.len
  generalize hh:T0.length=h
  generalize hb:wdt T0=b
  rw [hh] at h6
  rw [hb] at b6
  have hb48:(h:Int)*b+h+b≤48:=by
    have:(h:Int)*b≤6*6:=Int.mul_le_mul (by omega) (by omega) (by omega) (by omega)
    omega
  have v0:=InvP.first t
  rw [hh,hb] at v0
  have e1:=open_end hw (by omega) (by omega) t.nn
  obtain ⟨d,e,tl,rfl,h1,h2,h3,h4⟩:=run_ofF F_phases_def (ds:=[rowsD T0]) (P:=fun d=>∃ tl:Phs,d=.lst (tl.map phD)∧(∀ q∈tl,PhOk h b q)∧tl.length≤48∧(tl.map (·.1)).sum=topZ T0∧∀ i j:Nat,i<h→j<b→sumP i j tl=cel T0 i j) (by
    rw [st_phases]
    unfold B_phases
    refine wp_seq (wp_setM (rows:=mxS T0) (ev_compM0 (fun r=>D.lst (r.map D.int)) (ev_asL rfl rfl) (fun (r:List Int)=>r.map D.int) fun r _=>⟨[.bo (.lst (r.map D.int))],rfl,ev_flat (ev_lof rfl rfl) (flat_ints r)⟩) (by show 1<8; decide) ?_)
    dsimp only [List.set_cons_succ,List.set_cons_zero]
    refine wp_seq (wp_set (ev_call (ev_cons rfl rfl) e1) ?_)
    dsimp only [List.set_cons_succ,List.set_cons_zero]
    refine wp_seq (wp_setO (ds:=[]) rfl (by show 3<8; decide) ?_)
    dsimp only [List.set_cons_succ,List.set_cons_zero]
    refine wp_seq (wp_while (fun n ρ=>∃ (T:Mx) (R:Int) (tl:Phs) (v4 v5 v6 v7:Sl),InvP T0 h b (topZ T0) T R tl∧n=(loose h b (cel T) R).toNat∧ρ=[.bo (rowsD T0),.om (mxS T),.pu (.int R),.ol (tl.map phD),v4,v5,v6,v7]) _ ⟨T0,topZ T0,[],_,_,_,_,v0,rfl,rfl⟩ ?_)
    rintro n ρ ⟨T,R,tl,v4,v5,v6,v7,v,hn,rfl⟩
    refine ⟨decide (0<R),ev_t (ev_gt rfl rfl),fun x=>?_,fun x=>?_⟩
    · have hR:0<R:=of_decide_eq_true x
      have h0:=v.nz hR
      have w:=v.w
      have hl:=w.len
      have hwd:=wdt_of w h0
      obtain ⟨X,eX,m⟩:=matched v.f hR (n:=14) (by omega)
      obtain ⟨P,eP,pm⟩:=urgent w hwd h0 h6 b6 eX m
      obtain ⟨H,eH,g⟩:=longest w hwd h0 h6 b6 m pm
      have k:=prs_ok m g pm
      obtain ⟨v',lf⟩:=v.next hR m g pm
      have eT:∀ (a b c d e f:Sl),dVar 1 [.bo (rowsD T0),.om (mxS T),a,b,c,d,e,f]=some (rowsD T):=fun a b c d e f=>congrArg some (mxS_D T)
      refine wp_seq (wp_set (ev_call (ev_cons (eT ..) (ev_cons rfl rfl)) eP) ?_)
      dsimp only [List.set_cons_succ,List.set_cons_zero]
      refine wp_seq (wp_set (ev_call (ev_cons (eT ..) (ev_cons rfl (ev_cons rfl rfl))) eH) ?_)
      dsimp only [List.set_cons_succ,List.set_cons_zero]
      refine wp_seq (wp_for (ds:=P.map prD) (ev_asL rfl rfl) (fun j ρ=>∃ v6 v7:Sl,ρ=[.bo (rowsD T0),.om (mxS (addP (-H) T (P.take j))),.pu (.int R),.ol (tl.map phD),.pu (prsD P),.pu (.int H),v6,v7]) ⟨_,_,rfl⟩ ?_ ?_)
      · rintro j d ρ hd ⟨v6,v7,rfl⟩
        rw [List.getElem?_map] at hd
        obtain ⟨p,hp,rfl⟩:=Option.map_eq_some_iff.mp hd
        obtain ⟨w2,p1,p2⟩:=sub_pairs (P:=P) (H:=-H) w k.inn k.nd hp
        have p1:=rgI_mem.mp p1
        have p2:=rgI_mem.mp p2
        have hl2:=w2.len
        have hr2:=w2.row (i:=p.1.toNat) (by omega)
        refine ⟨[.bo (rowsD T0),.om (mxS (addP (-H) T (P.take j))),.pu (.int R),.ol (tl.map phD),.pu (prsD P),.pu (.int H),.pu (.int p.1),.pu (.int p.2)],rfl,?_⟩
        refine wp_aug2 rfl rfl (ixN_in p1.1 (by rw [mxS_len]; omega)) (mxS_get (by omega)) rfl (ixN_in p2.1 (by rw [List.length_map]; omega)) (x:=cel (addP (-H) T (P.take j)) p.1 p.2) ?_ rfl ⟨.pu (.int p.1),.pu (.int p.2),?_⟩
        · rw [List.getElem?_map,List.getElem?_eq_getElem (by omega),cel_up _ p1.1 p2.1,List.getD_eq_getElem?_getD (l:=List.getD _ _ _),List.getElem?_eq_getElem (by omega)]
          rfl
        · dsimp only [List.set_cons_succ,List.set_cons_zero]
          rw [mxS_up,take_snoc hp,addP_snoc]
          rfl
      · rintro ρ ⟨v6,v7,rfl⟩
        rw [List.length_map,List.take_length]
        refine wp_seq (wp_aug rfl rfl ?_)
        dsimp only [List.set_cons_succ,List.set_cons_zero]
        have:=v.few
        have:=loose_ge h b (cel T) R
        have:=loose_ge h b (cel (addP (-H) T P)) (R-H)
        refine wp_app rfl (ev_lst (ev_cons rfl (ev_cons rfl rfl))) (by rw [List.length_map]; omega) ?_
        refine ⟨_,?_,_,_,tl++[(H,P)],.pu (prsD P),.pu (.int H),v6,v7,v',rfl,?_⟩
        · rw [hn]; omega
        · dsimp only [List.set_cons_succ,List.set_cons_zero]
          rw [List.map_append]
          rfl
    · have hR:¬ 0<R:=of_decide_eq_false x
      have r0:=v.r0
      have eR:R=0:=by omega
      subst eR
      refine wp_frz ?_
      dsimp only [frz,List.getD_cons_succ,List.getD_cons_zero,List.set_cons_succ,List.set_cons_zero]
      have:=v.few
      have:=loose_ge h b (cel T) 0
      have hs:=v.sum
      refine wp_ret rfl ⟨tl,rfl,v.ok,by omega,by omega,fun i j hi hj=>?_⟩
      have c:=v.cells i j hi hj
      have:=none_left v.f (i:=(i:Int)) (j:=(j:Int)) (rgI_mem.mpr ⟨by omega,by omega⟩) (rgI_mem.mpr ⟨by omega,by omega⟩)
      omega)
  exact ⟨tl,e,h1,h2,h3,h4⟩
theorem l_two {h b:Nat} {p:Int×Int} (p1:p.1∈rgI h) (p2:p.2∈rgI b):F_l_two [prD p,.int (h:Int),.int (b:Int)]=some (.bl true):=by
  have p1:=rgI_mem.mp p1
  have p2:=rgI_mem.mp p2
  refine run_eqF F_l_two_def ?_
  rw [st_l_two]
  unfold B_l_two
  refine wp_seq (wp_ifF (ev_or (x:=false) (y:=false) (ev_not (x:=true) (ev_tru rfl rfl)) fun _=>ev_or (x:=false) (y:=false) (by rw [ev_t (ev_neF (i:=2) (j:=2) rfl rfl)]; simp) fun _=>ev_or (x:=false) (y:=false) (ev_not (x:=true) (ev_tru (ev_call (ev_cons (ev_ix rfl rfl rfl) rfl) (whole p.1)) rfl)) fun _=>ev_not (x:=true) (ev_tru (ev_call (ev_cons (ev_ix rfl rfl rfl) rfl) (whole p.2)) rfl)) (wp_pass ?_))
  refine wp_ret (ev_andV (x:=true) (y:=true) (by rw [ev_le rfl (ev_ix rfl rfl rfl),decide_eq_true p1.1]) fun _=>ev_andV (x:=true) (y:=true) (by rw [ev_lt (ev_ix rfl rfl rfl) rfl,decide_eq_true p1.2]) fun _=>ev_andV (x:=true) (y:=true) (by rw [ev_le rfl (ev_ix rfl rfl rfl),decide_eq_true p2.1]) fun _=>by rw [ev_lt (ev_ix rfl rfl rfl) rfl,decide_eq_true p2.2]) rfl
theorem notin_take {l:List Int} (nd:l.Nodup) {k:Nat} {x:Int} (h:l[k]?=some x):x∉l.take k:=by
  intro z
  obtain ⟨i,hi⟩:=List.getElem?_of_mem z
  have hk:=(List.getElem?_eq_some_iff.mp hi).1
  rw [List.length_take] at hk
  rw [List.getElem?_take_of_lt (by omega)] at hi
  have:=(List.getElem?_inj (i:=i) (j:=k) (by omega) nd).mp (hi.trans h.symm)
  omega
theorem l_phase {T0:Mx} {h b:Nat} (w0:Wd T0 h b) (h0:0<h) {q:Int×Prs} (k:PhOk h b q) {M:Mx} (w:Wd M h b) (lP:q.2.length≤1000) (a:Addr) (ps:List Addr):F_l_phase a ps [phD q,rowsD T0,rowsL (mxS M)]=some (mxS (addP q.1 M q.2)):=by
  have hline:sizeLine=16777216:=sizeLine_eq
  have hl0:=w0.len
  refine run_eqU F_l_phase_def (rows:=mxS M) rfl ?_
  rw [st_l_phase]
  unfold B_l_phase
  dsimp only [List.set_cons_succ,List.set_cons_zero]
  have hq:=k.ge
  refine wp_seq (wp_ifF (ev_or (x:=false) (y:=false) (ev_not (x:=true) (ev_tru rfl rfl)) fun _=>ev_or (x:=false) (y:=false) (by rw [ev_t (ev_neF (i:=2) (j:=2) rfl rfl)]; simp) fun _=>ev_or (x:=false) (y:=false) (ev_not (x:=true) (ev_tru (ev_call (ev_cons (ev_ix rfl rfl rfl) rfl) (whole q.1)) rfl)) fun _=>by rw [ev_t (ev_lt (ev_ix rfl rfl rfl) rfl)]; exact congrArg some (decide_eq_false (by omega))) (wp_pass ?_))
  refine wp_seq (wp_ifF (ev_not (x:=true) (ev_tru rfl rfl)) (wp_pass ?_))
  refine wp_seq (wp_setO (ds:=[]) rfl (by show 3<6; decide) ?_)
  dsimp only [List.set_cons_succ,List.set_cons_zero]
  refine wp_seq (wp_setO (ds:=[]) rfl (by show 4<6; decide) ?_)
  dsimp only [List.set_cons_succ,List.set_cons_zero]
  refine wp_seq (wp_for (ds:=q.2.map prD) (ev_asL (ev_ix rfl rfl rfl) rfl) (fun j ρ=>∃ v5:Sl,ρ=[.pu (phD q),.pu (rowsD T0),.pm a ps (mxS (addP q.1 M (q.2.take j))),.ol (((q.2.map (·.1)).take j).map D.int),.ol (((q.2.map (·.2)).take j).map D.int),v5]) ⟨_,by rw [List.take_zero,List.take_zero,List.take_zero]; rfl⟩ ?_ ?_)
  · rintro j d ρ hd ⟨v5,rfl⟩
    rw [List.getElem?_map] at hd
    obtain ⟨p,hp,rfl⟩:=Option.map_eq_some_iff.mp hd
    obtain ⟨w2,p1,p2⟩:=sub_pairs (H:=q.1) w k.inn k.nd hp
    have e2:=l_two p1 p2
    have p1:=rgI_mem.mp p1
    have p2:=rgI_mem.mp p2
    have hl2:=w2.len
    have hr2:=w2.row (i:=p.1.toNat) (by omega)
    have hp1:(q.2.map (·.1))[j]?=some p.1:=by rw [List.getElem?_map,hp]; rfl
    have hp2:(q.2.map (·.2))[j]?=some p.2:=by rw [List.getElem?_map,hp]; rfl
    have n1:=notin_take k.n1 hp1
    have n2:=notin_take k.n2 hp2
    have lj:=(List.getElem?_eq_some_iff.mp hp).1
    refine ⟨[.pu (phD q),.pu (rowsD T0),.pm a ps (mxS (addP q.1 M (q.2.take j))),.ol (((q.2.map (·.1)).take j).map D.int),.ol (((q.2.map (·.2)).take j).map D.int),.pu (prD p)],rfl,?_⟩
    have el:lenD (rowsD T0)=some (.int (h:Int)):=by
      show some (D.int ((T0.map fun r=>D.lst (r.map D.int)).length:Nat))=_
      rw [List.length_map,hl0]
    have ew:ixD (rowsD T0) 0=some (.lst ((T0.getD 0 []).map D.int)):=ixL (row_get (T:=T0) (i:=0) (by omega))
    refine wp_seq (wp_ifF (ev_not (x:=true) (ev_tru (ev_call (ev_cons rfl (ev_cons (ev_f1 rfl el) (ev_cons (ev_f1 (ev_ix rfl rfl ew) (by rw [len_map,w0.row h0])) rfl))) e2) rfl)) (wp_pass ?_))
    refine wp_seq (wp_ifF (ev_or (x:=false) (y:=false) (by rw [ev_t (ev_inI (neg:=false) (ev_ix rfl rfl rfl) rfl)]; exact congrArg some (decide_eq_false n1)) fun _=>by rw [ev_t (ev_inI (neg:=false) (ev_ix rfl rfl rfl) rfl)]; exact congrArg some (decide_eq_false n2)) (wp_pass ?_))
    have lt1:(((q.2.map (·.1)).take j).map D.int).length<sizeLine:=by rw [List.length_map,List.length_take,List.length_map]; omega
    have lt2:(((q.2.map (·.2)).take j).map D.int).length<sizeLine:=by rw [List.length_map,List.length_take,List.length_map]; omega
    refine wp_seq (wp_app rfl (ev_ix rfl rfl rfl) lt1 ?_)
    dsimp only [List.set_cons_succ,List.set_cons_zero]
    refine wp_seq (wp_app rfl (ev_ix rfl rfl rfl) lt2 ?_)
    dsimp only [List.set_cons_succ,List.set_cons_zero]
    have hc:∀ (c d e:Sl),dIx (dIx (dVar 2) (dIx (dVar 5) (dC (.int 0)))) (dIx (dVar 5) (dC (.int 1))) [.pu (phD q),.pu (rowsD T0),.pm a ps (mxS (addP q.1 M (q.2.take j))),c,d,.pu (prD p)]=some (.int (cel (addP q.1 M (q.2.take j)) p.1 p.2)):=fun c d e=>by
      have a1:((p.1.toNat:Nat):Int)=p.1:=by omega
      have a2:((p.2.toNat:Nat):Int)=p.2:=by omega
      have:=cell_ev w2 (i:=p.1.toNat) (j:=p.2.toNat) (by omega) (by omega) (ρ:=[.pu (phD q),.pu (rowsD T0),.pm a ps (mxS (addP q.1 M (q.2.take j))),c,d,.pu (prD p)]) (x:=dVar 2) (y:=dIx (dVar 5) (dC (.int 0))) (z:=dIx (dVar 5) (dC (.int 1))) (congrArg some (mxS_D _)) (by rw [a1]; exact ev_ix rfl rfl rfl) (by rw [a2]; exact ev_ix rfl rfl rfl)
      rw [a1,a2] at this
      exact this
    refine wp_put2P rfl (ev_add (hc _ _ .un) (ev_ix rfl rfl rfl)) (ev_ix rfl rfl rfl) (ixN_in p1.1 (by rw [mxS_len]; omega)) (mxS_get (by omega)) (ev_ix rfl rfl rfl) (ixN_in p2.1 (by rw [List.length_map]; omega)) ⟨.pu (prD p),?_⟩
    dsimp only [List.set_cons_succ,List.set_cons_zero]
    rw [mxS_up,take_snoc hp,addP_snoc,take_snoc hp1,take_snoc hp2,List.map_append,List.map_append]
    rfl
  · rintro ρ ⟨v5,rfl⟩
    refine wp_pass ?_
    rw [List.length_map,List.take_length]
    rfl
def zerM (T:Mx):Mx:=T.map fun r=>List.replicate r.length 0
theorem zerM_wd {T:Mx} {h b:Nat} (w:Wd T h b):Wd (zerM T) h b:=by
  refine ⟨by unfold zerM; rw [List.length_map,w.len],fun r hr=>?_⟩
  obtain ⟨s,hs,rfl⟩:=List.mem_map.mp hr
  rw [List.length_replicate,w.wid s hs]
theorem zerM_cel (T:Mx) (i j:Nat):cel (zerM T) i j=0:=by
  rw [cel_nat]
  unfold zerM
  rw [List.getD_eq_getElem?_getD (l:=List.map _ _),List.getElem?_map]
  cases T[i]? with
  | none=>rfl
  | some r =>
    show (List.replicate r.length 0).getD j 0=0
    rw [List.getD_eq_getElem?_getD,List.getElem?_replicate]
    split <;> rfl
theorem layP_snoc (M:Mx) (tl:Phs) (q:Int×Prs):layP M (tl++[q])=addP q.1 (layP M tl) q.2:=by
  unfold layP
  rw [List.foldl_append]
  rfl
theorem is_phases {T0:Mx} {m:Nat} (t:Tab T0 m) {tl:Phs} (ok:∀ q∈tl,PhOk T0.length (wdt T0) q) (few:tl.length≤48) (sum:(tl.map (·.1)).sum=topZ T0) (cells:∀ i j:Nat,i<T0.length→j<wdt T0→sumP i j tl=cel T0 i j):F_l_is_phases [rowsD T0,.lst (tl.map phD)]=some (.bl true):=by
  have hline:sizeLine=16777216:=sizeLine_eq
  have hw:=t.w
  have b6:=t.w6
  have h6:=t.len
  have w0:Wd T0 T0.length (wdt T0):=⟨rfl,hw⟩
  have e1:=l_end hw (by omega) (by omega)
  have wz:=zerM_wd w0
  refine run_eqF F_l_is_phases_def ?_
  rw [st_l_is_phases]
  unfold B_l_is_phases
  refine wp_seq (wp_ifF (ev_or (x:=false) (y:=false) (ev_not (x:=true) (ev_tru rfl rfl)) fun _=>?_) (wp_pass ?_))
  · rw [ev_t (ev_gt (i:=(tl.length:Int)) (ev_f1 rfl (by show some (D.int ((tl.map phD).length:Nat))=_; rw [List.length_map])) rfl)]
    exact congrArg some (decide_eq_false (by omega))
  refine wp_seq (wp_setM (rows:=mxS (zerM T0)) ?_ (by show 2<5; decide) ?_)
  · rw [ev_compM0 (fun r=>D.lst (r.map D.int)) (ev_asL rfl rfl) (fun (r:List Int)=>(List.replicate r.length (0:Int)).map D.int) fun r hr=>⟨[.pu (.lst (r.map D.int))],rfl,?_⟩]
    · unfold mxS zerM
      rw [List.map_map]
      rfl
    · have hr':=hw r hr
      rw [ev_rep (i:=(r.length:Int)) rfl (ev_f1 rfl (len_map r)) ⟨by omega,by omega,by simp; omega⟩,Int.toNat_natCast]
      congr 1
      rw [List.map_replicate]
      exact List.flatten_replicate_singleton
  dsimp only [List.set_cons_succ,List.set_cons_zero]
  refine wp_seq (wp_set rfl ?_)
  dsimp only [List.set_cons_succ,List.set_cons_zero]
  refine wp_seq (wp_for (ds:=tl.map phD) (ev_asL rfl rfl) (fun j ρ=>∃ v4:Sl,ρ=[.pu (rowsD T0),.pu (.lst (tl.map phD)),.om (mxS (layP (zerM T0) (tl.take j))),.pu (.int (((tl.map (·.1)).take j).sum)),v4]) ⟨_,rfl⟩ ?_ ?_)
  · rintro j d ρ hd ⟨v4,rfl⟩
    rw [List.getElem?_map] at hd
    obtain ⟨q,hq,rfl⟩:=Option.map_eq_some_iff.mp hd
    have hm:=List.mem_of_getElem? hq
    have k:=ok q hm
    have w2:=(layP_ok (tl:=tl.take j) wz fun x hx=>ok x (List.mem_of_mem_take hx)).1
    have hne:T0≠[]:=fun z=>by
      have h1:topZ T0=0:=by rw [z]; rfl
      have:∀ l:List Int,(∀ x∈l,1≤x)→l≠[]→1≤l.sum:=by
        intro l
        induction l with
        | nil=>intro _ h; exact absurd rfl h
        | cons x l ih =>
          intro h _
          rw [List.sum_cons]
          have h1:=h x List.mem_cons_self
          by_cases c:l=[]
          · subst c; simp; exact h1
          · have:=ih (fun y hy=>h y (List.mem_cons_of_mem _ hy)) c
            omega
      have h2:=this (tl.map (·.1)) (fun x hx=>by obtain ⟨p,hp,rfl⟩:=List.mem_map.mp hx; exact (ok p hp).ge) (fun z=>by rw [List.map_eq_nil_iff] at z; rw [z] at hm; cases hm)
      omega
    have h0:0<T0.length:=List.length_pos_iff.mpr hne
    refine ⟨[.pu (rowsD T0),.pu (.lst (tl.map phD)),.om (mxS (layP (zerM T0) (tl.take j))),.pu (.int (((tl.map (·.1)).take j).sum)),.pu (phD q)],rfl,?_⟩
    have lP:q.2.length≤1000:=by
      have:=nd_len k.n2 (V:=rgI (wdt T0)) fun x hx=>by obtain ⟨p,hp,rfl⟩:=List.mem_map.mp hx; exact (k.inn p hp).2
      rw [List.length_map,rgI_len] at this
      omega
    refine wp_seq (wp_ifU ?_ rfl (ds:=[phD q,rowsD T0,rowsL (mxS (layP (zerM T0) (tl.take j)))]) rfl (fun a ps _=>l_phase w0 h0 k w2 lP a ps) ?_)
    · rw [ev_t (ev_eq (neg:=false) (d:=rowsD T0) (e:=.lst []) rfl rfl (cmp_rows T0 []))]
      exact congrArg some (@decide_eq_false _ (_) fun z=>hne (List.map_eq_nil_iff.mp (D.lst.inj z)))
    dsimp only [List.set_cons_succ,List.set_cons_zero]
    refine wp_set (ev_add rfl (ev_ix rfl rfl rfl)) ⟨.pu (phD q),?_⟩
    dsimp only [List.set_cons_succ,List.set_cons_zero]
    have hq1:(tl.map (·.1))[j]?=some q.1:=by rw [List.getElem?_map,hq]; rfl
    rw [take_snoc hq,layP_snoc,take_snoc hq1,List.sum_append]
    simp only [List.sum_cons,List.sum_nil,Int.add_zero]
  · rintro ρ ⟨v4,rfl⟩
    rw [List.length_map,List.take_length,show (tl.map (·.1)).take tl.length=tl.map (·.1) from List.take_of_length_le (by rw [List.length_map]; exact Nat.le_refl _),sum]
    obtain ⟨w2,c2⟩:=layP_ok (tl:=tl) wz ok
    have eT:layP (zerM T0) tl=T0:=mx_ext w2 w0 fun i j hi hj=>by
      rw [c2,zerM_cel,cells i j hi hj]
      omega
    rw [eT]
    refine wp_ret (ev_andV (x:=true) (y:=true) (ev_eqSame (d:=rowsD T0) (congrArg some (mxS_D T0)) rfl (cmp_rows T0 T0)) fun _=>ev_eqSame rfl (ev_call (ev_cons rfl rfl) e1) rfl) rfl
theorem law_true (ns:List Int) (hl:ns.length≤63) (hb:∀ m∈ns,Builtin.Int.intBits m≤1048576):F_law [.scr ns]=some (.bl true):=by
  obtain ⟨T,m,e,hT⟩:=table ns hl
  obtain ⟨tl,e1,h1,h2,h3,h4⟩:=phases hT
  have e2:=is_phases hT h1 h2 h3 h4
  refine run_eqF F_law_def ?_
  rw [st_law]
  unfold B_law
  refine wp_seq (wp_set (ev_call (ev_cons rfl rfl) e) ?_)
  dsimp only [List.set_cons_succ,List.set_cons_zero]
  refine wp_seq (wp_set (copy_ev rfl) ?_)
  dsimp only [List.set_cons_succ,List.set_cons_zero]
  exact wp_ret (ev_andV (x:=true) (y:=true) (ev_call (ev_cons rfl (ev_cons (ev_call (ev_cons rfl rfl) e1) rfl)) e2) fun _=>ev_eqSame rfl rfl (cmp_rows T T)) rfl
theorem all_mk {K:PySem.W.Frag} {h:Heap} {mg:Str→Option Value} {fa:Addr} (X:K.In h) (G:h.Ns mainGlobals mg) (hfa:mg "law" = some (.ref fa))
    {f0:Addr} {od0 an0:Option Addr} {sl0:Array (Option Value)} {oc0 kV0 dc0 pm0 cd0 ct0:Value}
    {f1:Addr} {od1 an1:Option Addr} {sl1:Array (Option Value)} {oc1 kV1 dc1 pm1 cd1 ct1:Value}
    {f2:Addr} {od2 an2:Option Addr} {sl2:Array (Option Value)} {oc2 kV2 dc2 pm2 cd2 ct2:Value}
    {f3:Addr} {od3 an3:Option Addr} {sl3:Array (Option Value)} {oc3 kV3 dc3 pm3 cd3 ct3:Value}
    {f4:Addr} {od4 an4:Option Addr} {sl4:Array (Option Value)} {oc4 kV4 dc4 pm4 cd4 ct4:Value}
    {f5:Addr} {od5 an5:Option Addr} {sl5:Array (Option Value)} {oc5 kV5 dc5 pm5 cd5 ct5:Value}
    {f6:Addr} {od6 an6:Option Addr} {sl6:Array (Option Value)} {oc6 kV6 dc6 pm6 cd6 ct6:Value}
    {f7:Addr} {od7 an7:Option Addr} {sl7:Array (Option Value)} {oc7 kV7 dc7 pm7 cd7 ct7:Value}
    {f8:Addr} {od8 an8:Option Addr} {sl8:Array (Option Value)} {oc8 kV8 dc8 pm8 cd8 ct8:Value}
    {f9:Addr} {od9 an9:Option Addr} {sl9:Array (Option Value)} {oc9 kV9 dc9 pm9 cd9 ct9:Value}
    {f10:Addr} {od10 an10:Option Addr} {sl10:Array (Option Value)} {oc10 kV10 dc10 pm10 cd10 ct10:Value}
    {f11:Addr} {od11 an11:Option Addr} {sl11:Array (Option Value)} {oc11 kV11 dc11 pm11 cd11 ct11:Value}
    {f12:Addr} {od12 an12:Option Addr} {sl12:Array (Option Value)} {oc12 kV12 dc12 pm12 cd12 ct12:Value}
    {f13:Addr} {od13 an13:Option Addr} {sl13:Array (Option Value)} {oc13 kV13 dc13 pm13 cd13 ct13:Value}
    {f14:Addr} {od14 an14:Option Addr} {sl14:Array (Option Value)} {oc14 kV14 dc14 pm14 cd14 ct14:Value}
    {f15:Addr} {od15 an15:Option Addr} {sl15:Array (Option Value)} {oc15 kV15 dc15 pm15 cd15 ct15:Value}
    {f16:Addr} {od16 an16:Option Addr} {sl16:Array (Option Value)} {oc16 kV16 dc16 pm16 cd16 ct16:Value}
    {f17:Addr} {od17 an17:Option Addr} {sl17:Array (Option Value)} {oc17 kV17 dc17 pm17 cd17 ct17:Value}
    {f18:Addr} {od18 an18:Option Addr} {sl18:Array (Option Value)} {oc18 kV18 dc18 pm18 cd18 ct18:Value}
    {f19:Addr} {od19 an19:Option Addr} {sl19:Array (Option Value)} {oc19 kV19 dc19 pm19 cd19 ct19:Value}
    {f20:Addr} {od20 an20:Option Addr} {sl20:Array (Option Value)} {oc20 kV20 dc20 pm20 cd20 ct20:Value}
    (a0:PySem.W.nsIn K mainGlobals "loads" = some (some (.ref f0))) (l0:K.lookup f0=some ⟨oc0,od0,.func (PySem.W.fnOf "loads" "loads" (defArgs s_loads) (defBody s_loads) (defScope s_loads) .none kV0 dc0 pm0 an0 cd0 ct0),sl0⟩) (c0:PySem.W.codeIn K cd0 "loads" = true) (k0:PySem.W.keepIn K (.ref f0)=true)
    (a1:PySem.W.nsIn K mainGlobals "open_end" = some (some (.ref f1))) (l1:K.lookup f1=some ⟨oc1,od1,.func (PySem.W.fnOf "open_end" "open_end" (defArgs s_open_end) (defBody s_open_end) (defScope s_open_end) .none kV1 dc1 pm1 an1 cd1 ct1),sl1⟩) (c1:PySem.W.codeIn K cd1 "open_end" = true) (k1:PySem.W.keepIn K (.ref f1)=true)
    (a2:PySem.W.nsIn K mainGlobals "phases" = some (some (.ref f2))) (l2:K.lookup f2=some ⟨oc2,od2,.func (PySem.W.fnOf "phases" "phases" (defArgs s_phases) (defBody s_phases) (defScope s_phases) .none kV2 dc2 pm2 an2 cd2 ct2),sl2⟩) (c2:PySem.W.codeIn K cd2 "phases" = true) (k2:PySem.W.keepIn K (.ref f2)=true)
    (a3:PySem.W.nsIn K mainGlobals "urgent_pairs" = some (some (.ref f3))) (l3:K.lookup f3=some ⟨oc3,od3,.func (PySem.W.fnOf "urgent_pairs" "urgent_pairs" (defArgs s_urgent_pairs) (defBody s_urgent_pairs) (defScope s_urgent_pairs) .none kV3 dc3 pm3 an3 cd3 ct3),sl3⟩) (c3:PySem.W.codeIn K cd3 "urgent_pairs" = true) (k3:PySem.W.keepIn K (.ref f3)=true)
    (a4:PySem.W.nsIn K mainGlobals "offers" = some (some (.ref f4))) (l4:K.lookup f4=some ⟨oc4,od4,.func (PySem.W.fnOf "offers" "offers" (defArgs s_offers) (defBody s_offers) (defScope s_offers) .none kV4 dc4 pm4 an4 cd4 ct4),sl4⟩) (c4:PySem.W.codeIn K cd4 "offers" = true) (k4:PySem.W.keepIn K (.ref f4)=true)
    (a5:PySem.W.nsIn K mainGlobals "taker_of_each" = some (some (.ref f5))) (l5:K.lookup f5=some ⟨oc5,od5,.func (PySem.W.fnOf "taker_of_each" "taker_of_each" (defArgs s_taker_of_each) (defBody s_taker_of_each) (defScope s_taker_of_each) .none kV5 dc5 pm5 an5 cd5 ct5),sl5⟩) (c5:PySem.W.codeIn K cd5 "taker_of_each" = true) (k5:PySem.W.keepIn K (.ref f5)=true)
    (a6:PySem.W.nsIn K mainGlobals "take_one" = some (some (.ref f6))) (l6:K.lookup f6=some ⟨oc6,od6,.func (PySem.W.fnOf "take_one" "take_one" (defArgs s_take_one) (defBody s_take_one) (defScope s_take_one) .none kV6 dc6 pm6 an6 cd6 ct6),sl6⟩) (c6:PySem.W.codeIn K cd6 "take_one" = true) (k6:PySem.W.keepIn K (.ref f6)=true)
    (a7:PySem.W.nsIn K mainGlobals "longest_hours" = some (some (.ref f7))) (l7:K.lookup f7=some ⟨oc7,od7,.func (PySem.W.fnOf "longest_hours" "longest_hours" (defArgs s_longest_hours) (defBody s_longest_hours) (defScope s_longest_hours) .none kV7 dc7 pm7 an7 cd7 ct7),sl7⟩) (c7:PySem.W.codeIn K cd7 "longest_hours" = true) (k7:PySem.W.keepIn K (.ref f7)=true)
    (a8:PySem.W.nsIn K mainGlobals "_law_whole" = some (some (.ref f8))) (l8:K.lookup f8=some ⟨oc8,od8,.func (PySem.W.fnOf "_law_whole" "_law_whole" (defArgs s_l_whole) (defBody s_l_whole) (defScope s_l_whole) .none kV8 dc8 pm8 an8 cd8 ct8),sl8⟩) (c8:PySem.W.codeIn K cd8 "_law_whole" = true) (k8:PySem.W.keepIn K (.ref f8)=true)
    (a9:PySem.W.nsIn K mainGlobals "_law_cell_at" = some (some (.ref f9))) (l9:K.lookup f9=some ⟨oc9,od9,.func (PySem.W.fnOf "_law_cell_at" "_law_cell_at" (defArgs s_l_cell_at) (defBody s_l_cell_at) (defScope s_l_cell_at) .none kV9 dc9 pm9 an9 cd9 ct9),sl9⟩) (c9:PySem.W.codeIn K cd9 "_law_cell_at" = true) (k9:PySem.W.keepIn K (.ref f9)=true)
    (a10:PySem.W.nsIn K mainGlobals "_law_mixed" = some (some (.ref f10))) (l10:K.lookup f10=some ⟨oc10,od10,.func (PySem.W.fnOf "_law_mixed" "_law_mixed" (defArgs s_l_mixed) (defBody s_l_mixed) (defScope s_l_mixed) .none kV10 dc10 pm10 an10 cd10 ct10),sl10⟩) (c10:PySem.W.codeIn K cd10 "_law_mixed" = true) (k10:PySem.W.keepIn K (.ref f10)=true)
    (a11:PySem.W.nsIn K mainGlobals "_law_numbers" = some (some (.ref f11))) (l11:K.lookup f11=some ⟨oc11,od11,.func (PySem.W.fnOf "_law_numbers" "_law_numbers" (defArgs s_l_numbers) (defBody s_l_numbers) (defScope s_l_numbers) .none kV11 dc11 pm11 an11 cd11 ct11),sl11⟩) (c11:PySem.W.codeIn K cd11 "_law_numbers" = true) (k11:PySem.W.keepIn K (.ref f11)=true)
    (a12:PySem.W.nsIn K mainGlobals "_law_size" = some (some (.ref f12))) (l12:K.lookup f12=some ⟨oc12,od12,.func (PySem.W.fnOf "_law_size" "_law_size" (defArgs s_l_size) (defBody s_l_size) (defScope s_l_size) .none kV12 dc12 pm12 an12 cd12 ct12),sl12⟩) (c12:PySem.W.codeIn K cd12 "_law_size" = true) (k12:PySem.W.keepIn K (.ref f12)=true)
    (a13:PySem.W.nsIn K mainGlobals "_law_hours" = some (some (.ref f13))) (l13:K.lookup f13=some ⟨oc13,od13,.func (PySem.W.fnOf "_law_hours" "_law_hours" (defArgs s_l_hours) (defBody s_l_hours) (defScope s_l_hours) .none kV13 dc13 pm13 an13 cd13 ct13),sl13⟩) (c13:PySem.W.codeIn K cd13 "_law_hours" = true) (k13:PySem.W.keepIn K (.ref f13)=true)
    (a14:PySem.W.nsIn K mainGlobals "_law_table" = some (some (.ref f14))) (l14:K.lookup f14=some ⟨oc14,od14,.func (PySem.W.fnOf "_law_table" "_law_table" (defArgs s_l_table) (defBody s_l_table) (defScope s_l_table) .none kV14 dc14 pm14 an14 cd14 ct14),sl14⟩) (c14:PySem.W.codeIn K cd14 "_law_table" = true) (k14:PySem.W.keepIn K (.ref f14)=true)
    (a15:PySem.W.nsIn K mainGlobals "_law_sums" = some (some (.ref f15))) (l15:K.lookup f15=some ⟨oc15,od15,.func (PySem.W.fnOf "_law_sums" "_law_sums" (defArgs s_l_sums) (defBody s_l_sums) (defScope s_l_sums) .none kV15 dc15 pm15 an15 cd15 ct15),sl15⟩) (c15:PySem.W.codeIn K cd15 "_law_sums" = true) (k15:PySem.W.keepIn K (.ref f15)=true)
    (a16:PySem.W.nsIn K mainGlobals "_law_end" = some (some (.ref f16))) (l16:K.lookup f16=some ⟨oc16,od16,.func (PySem.W.fnOf "_law_end" "_law_end" (defArgs s_l_end) (defBody s_l_end) (defScope s_l_end) .none kV16 dc16 pm16 an16 cd16 ct16),sl16⟩) (c16:PySem.W.codeIn K cd16 "_law_end" = true) (k16:PySem.W.keepIn K (.ref f16)=true)
    (a17:PySem.W.nsIn K mainGlobals "_law_two" = some (some (.ref f17))) (l17:K.lookup f17=some ⟨oc17,od17,.func (PySem.W.fnOf "_law_two" "_law_two" (defArgs s_l_two) (defBody s_l_two) (defScope s_l_two) .none kV17 dc17 pm17 an17 cd17 ct17),sl17⟩) (c17:PySem.W.codeIn K cd17 "_law_two" = true) (k17:PySem.W.keepIn K (.ref f17)=true)
    (a18:PySem.W.nsIn K mainGlobals "_law_phase" = some (some (.ref f18))) (l18:K.lookup f18=some ⟨oc18,od18,.func (PySem.W.fnOf "_law_phase" "_law_phase" (defArgs s_l_phase) (defBody s_l_phase) (defScope s_l_phase) .none kV18 dc18 pm18 an18 cd18 ct18),sl18⟩) (c18:PySem.W.codeIn K cd18 "_law_phase" = true) (k18:PySem.W.keepIn K (.ref f18)=true)
    (a19:PySem.W.nsIn K mainGlobals "_law_is_phases" = some (some (.ref f19))) (l19:K.lookup f19=some ⟨oc19,od19,.func (PySem.W.fnOf "_law_is_phases" "_law_is_phases" (defArgs s_l_is_phases) (defBody s_l_is_phases) (defScope s_l_is_phases) .none kV19 dc19 pm19 an19 cd19 ct19),sl19⟩) (c19:PySem.W.codeIn K cd19 "_law_is_phases" = true) (k19:PySem.W.keepIn K (.ref f19)=true)
    (a20:PySem.W.nsIn K mainGlobals "law" = some (some (.ref f20))) (l20:K.lookup f20=some ⟨oc20,od20,.func (PySem.W.fnOf "law" "law" (defArgs s_law) (defBody s_law) (defScope s_law) .none kV20 dc20 pm20 an20 cd20 ct20),sl20⟩) (c20:PySem.W.codeIn K cd20 "law" = true) (k20:PySem.W.keepIn K (.ref f20)=true)
    (z_bool:PySem.W.nsIn K mainGlobals "bool" = some none)
    (z_enumerate:PySem.W.nsIn K mainGlobals "enumerate" = some none)
    (z_int:PySem.W.nsIn K mainGlobals "int" = some none)
    (z_isinstance:PySem.W.nsIn K mainGlobals "isinstance" = some none)
    (z_len:PySem.W.nsIn K mainGlobals "len" = some none)
    (z_list:PySem.W.nsIn K mainGlobals "list" = some none)
    (z_max:PySem.W.nsIn K mainGlobals "max" = some none)
    (z_min:PySem.W.nsIn K mainGlobals "min" = some none)
    (z_range:PySem.W.nsIn K mainGlobals "range" = some none)
    (z_sorted:PySem.W.nsIn K mainGlobals "sorted" = some none)
    (z_sum:PySem.W.nsIn K mainGlobals "sum" = some none) :
    ∃ a:Adr,Txt K mg a∧a.f_law=fa∧∀ (s:Shared) (v:Value),BindsTo s a.d_law ⟨[v],[]⟩ [("_law_script", v)]:=by
  have e:=hfa.symm.trans (PySem.W.mg_of X G a20)
  cases e
  have F0:=fun_mk (st:=s_loads) l0 c0 k0
  have F1:=fun_mk (st:=s_open_end) l1 c1 k1
  have F2:=fun_mk (st:=s_phases) l2 c2 k2
  have F3:=fun_mk (st:=s_urgent_pairs) l3 c3 k3
  have F4:=fun_mk (st:=s_offers) l4 c4 k4
  have F5:=fun_mk (st:=s_taker_of_each) l5 c5 k5
  have F6:=fun_mk (st:=s_take_one) l6 c6 k6
  have F7:=fun_mk (st:=s_longest_hours) l7 c7 k7
  have F8:=fun_mk (st:=s_l_whole) l8 c8 k8
  have F9:=fun_mk (st:=s_l_cell_at) l9 c9 k9
  have F10:=fun_mk (st:=s_l_mixed) l10 c10 k10
  have F11:=fun_mk (st:=s_l_numbers) l11 c11 k11
  have F12:=fun_mk (st:=s_l_size) l12 c12 k12
  have F13:=fun_mk (st:=s_l_hours) l13 c13 k13
  have F14:=fun_mk (st:=s_l_table) l14 c14 k14
  have F15:=fun_mk (st:=s_l_sums) l15 c15 k15
  have F16:=fun_mk (st:=s_l_end) l16 c16 k16
  have F17:=fun_mk (st:=s_l_two) l17 c17 k17
  have F18:=fun_mk (st:=s_l_phase) l18 c18 k18
  have F19:=fun_mk (st:=s_l_is_phases) l19 c19 k19
  have F20:=fun_mk (st:=s_law) l20 c20 k20
  have b0:=F0.binds (ps:=["table"]) fun _ _ _ _ _ _ us hl=>match us,hl with | [_],_=>rfl
  have b1:=F1.binds (ps:=["table"]) fun _ _ _ _ _ _ us hl=>match us,hl with | [_],_=>rfl
  have b2:=F2.binds (ps:=["table"]) fun _ _ _ _ _ _ us hl=>match us,hl with | [_],_=>rfl
  have b3:=F3.binds (ps:=["left", "rest"]) fun _ _ _ _ _ _ us hl=>match us,hl with | [_,_],_=>rfl
  have b4:=F4.binds (ps:=["left", "rest"]) fun _ _ _ _ _ _ us hl=>match us,hl with | [_,_],_=>rfl
  have b5:=F5.binds (ps:=["offered"]) fun _ _ _ _ _ _ us hl=>match us,hl with | [_],_=>rfl
  have b6:=F6.binds (ps:=["offered", "taker", "takers", "asked"]) fun _ _ _ _ _ _ us hl=>match us,hl with | [_,_,_,_],_=>rfl
  have b7:=F7.binds (ps:=["left", "rest", "pairs"]) fun _ _ _ _ _ _ us hl=>match us,hl with | [_,_,_],_=>rfl
  have b8:=F8.binds (ps:=["_law_found"]) fun _ _ _ _ _ _ us hl=>match us,hl with | [_],_=>rfl
  have b9:=F9.binds (ps:=["_law_script", "_law_k"]) fun _ _ _ _ _ _ us hl=>match us,hl with | [_,_],_=>rfl
  have b10:=F10.binds (ps:=["_law_cell", "_law_k"]) fun _ _ _ _ _ _ us hl=>match us,hl with | [_,_],_=>rfl
  have b11:=F11.binds (ps:=["_law_script"]) fun _ _ _ _ _ _ us hl=>match us,hl with | [_],_=>rfl
  have b12:=F12.binds (ps:=["_law_cell"]) fun _ _ _ _ _ _ us hl=>match us,hl with | [_],_=>rfl
  have b13:=F13.binds (ps:=["_law_number", "_law_mode"]) fun _ _ _ _ _ _ us hl=>match us,hl with | [_,_],_=>rfl
  have b14:=F14.binds (ps:=["_law_script"]) fun _ _ _ _ _ _ us hl=>match us,hl with | [_],_=>rfl
  have b15:=F15.binds (ps:=["_law_table_here"]) fun _ _ _ _ _ _ us hl=>match us,hl with | [_],_=>rfl
  have b16:=F16.binds (ps:=["_law_table_here"]) fun _ _ _ _ _ _ us hl=>match us,hl with | [_],_=>rfl
  have b17:=F17.binds (ps:=["_law_pair", "_law_hands", "_law_many"]) fun _ _ _ _ _ _ us hl=>match us,hl with | [_,_,_],_=>rfl
  have b18:=F18.binds (ps:=["_law_phase_here", "_law_table_here", "_law_done"]) fun _ _ _ _ _ _ us hl=>match us,hl with | [_,_,_],_=>rfl
  have b19:=F19.binds (ps:=["_law_table_here", "_law_found"]) fun _ _ _ _ _ _ us hl=>match us,hl with | [_,_],_=>rfl
  have b20:=F20.binds (ps:=["_law_script"]) fun _ _ _ _ _ _ us hl=>match us,hl with | [_],_=>rfl
  exact ⟨⟨f0,_,f1,_,f2,_,f3,_,f4,_,f5,_,f6,_,f7,_,f8,_,f9,_,f10,_,f11,_,f12,_,f13,_,f14,_,f15,_,f16,_,f17,_,f18,_,f19,_,fa,_⟩,⟨F0,b0,PySem.W.mg_of X G a0,F1,b1,PySem.W.mg_of X G a1,F2,b2,PySem.W.mg_of X G a2,F3,b3,PySem.W.mg_of X G a3,F4,b4,PySem.W.mg_of X G a4,F5,b5,PySem.W.mg_of X G a5,F6,b6,PySem.W.mg_of X G a6,F7,b7,PySem.W.mg_of X G a7,F8,b8,PySem.W.mg_of X G a8,F9,b9,PySem.W.mg_of X G a9,F10,b10,PySem.W.mg_of X G a10,F11,b11,PySem.W.mg_of X G a11,F12,b12,PySem.W.mg_of X G a12,F13,b13,PySem.W.mg_of X G a13,F14,b14,PySem.W.mg_of X G a14,F15,b15,PySem.W.mg_of X G a15,F16,b16,PySem.W.mg_of X G a16,F17,b17,PySem.W.mg_of X G a17,F18,b18,PySem.W.mg_of X G a18,F19,b19,PySem.W.mg_of X G a19,F20,b20,PySem.W.mg_of X G a20,PySem.W.mg_none_of X G z_bool,PySem.W.mg_none_of X G z_enumerate,PySem.W.mg_none_of X G z_int,PySem.W.mg_none_of X G z_isinstance,PySem.W.mg_none_of X G z_len,PySem.W.mg_none_of X G z_list,PySem.W.mg_none_of X G z_max,PySem.W.mg_none_of X G z_min,PySem.W.mg_none_of X G z_range,PySem.W.mg_none_of X G z_sorted,PySem.W.mg_none_of X G z_sum⟩,rfl,fun s v=>.of_eq rfl⟩
theorem walk {l:PySem.W.OpenLaw} {q:Program} {loose:List Str} {XP:(Str→Option Value)→Heap→Prop} {YP:World→Heap→Prop} {d:DefRec} {K:Params→PySem.W.Frag} (hn:l.most=some 63) (hdf:d.params.defaults=[])
    (hY:∀ (w:World) (h:Heap),YP w h→(K w.params).In h)
    (F:∀ (w:World) (mg:Str→Option Value) (fa:Addr) (h:Heap),(K w.params).In h→h.Ns mainGlobals mg→mg d.name=some (.ref fa)→∃ a:Adr,Txt (K w.params) mg a∧a.f_law=fa∧∀ (s:Shared) (v:Value),BindsTo s a.d_law ⟨[v],[]⟩ [("_law_script", v)]) :
    PySem.W.WalkO q loose XP YP l.row.toRowW d [] (fun f vs=>PySem.call f vs) :=
  L2.walk_ofB (n:=63) (k:=19) (x := "_law_script") (CX:=fun _=>CX0) (sp:=fun w=>sp_law (K w.params)) hn (by decide) hdf ⟨rfl,by decide,by decide⟩ hY
    (fun w mg fa h KX G e=>by
      obtain ⟨a,T,rfl,hb⟩:=F w mg fa h KX G e
      exact ⟨a.d_law,hb,fun base kb nb=>(ok_law T).imp fun vs H Q E h=>sp_law_of law_true h⟩)
    (fun _ _ a ns hl hbits _ hS=>⟨a,ns,rfl,hS,hl,hbits,(fun _ h=>by cases h),fun _=>rfl⟩) fun _ _ _ _ _ z=>z
end My
open PySem PySem.W PyProof.Rows
set_option maxRecDepth 100000 in
set_option maxHeartbeats 0 in
theorem PySem.Challenge.cw_leastfloor_k22_whole_phases_holds : PySem.Challenge.rw_leastfloor_k22_whole_phases.Holds := by
  w_on; o_law; k_head; (case hw => w_witness2)
  k_fill
  refine My.walk (l := PySem.Challenge.rw_leastfloor_k22_whole_phases) rfl rfl (fun w h Y => by first | exact PySem.W.kIn_of Y | exact PySem.W.km_in_of Y) ?F
  case F =>
    intro w mg fa h KX G hmg
    refine' My.all_mk KX G hmg ?a0 ?l0 ?c0 ?k0 ?a1 ?l1 ?c1 ?k1 ?a2 ?l2 ?c2 ?k2 ?a3 ?l3 ?c3 ?k3 ?a4 ?l4 ?c4 ?k4 ?a5 ?l5 ?c5 ?k5 ?a6 ?l6 ?c6 ?k6 ?a7 ?l7 ?c7 ?k7 ?a8 ?l8 ?c8 ?k8 ?a9 ?l9 ?c9 ?k9 ?a10 ?l10 ?c10 ?k10 ?a11 ?l11 ?c11 ?k11 ?a12 ?l12 ?c12 ?k12 ?a13 ?l13 ?c13 ?k13 ?a14 ?l14 ?c14 ?k14 ?a15 ?l15 ?c15 ?k15 ?a16 ?l16 ?c16 ?k16 ?a17 ?l17 ?c17 ?k17 ?a18 ?l18 ?c18 ?k18 ?a19 ?l19 ?c19 ?k19 ?a20 ?l20 ?c20 ?k20 ?z_bool ?z_enumerate ?z_int ?z_isinstance ?z_len ?z_list ?z_max ?z_min ?z_range ?z_sorted ?z_sum
    (case a0 => k_is); (case l0 => k_is); (case c0 => k_is); (case k0 => k_is)
    (case a1 => k_is); (case l1 => k_is); (case c1 => k_is); (case k1 => k_is)
    (case a2 => k_is); (case l2 => k_is); (case c2 => k_is); (case k2 => k_is)
    (case a3 => k_is); (case l3 => k_is); (case c3 => k_is); (case k3 => k_is)
    (case a4 => k_is); (case l4 => k_is); (case c4 => k_is); (case k4 => k_is)
    (case a5 => k_is); (case l5 => k_is); (case c5 => k_is); (case k5 => k_is)
    (case a6 => k_is); (case l6 => k_is); (case c6 => k_is); (case k6 => k_is)
    (case a7 => k_is); (case l7 => k_is); (case c7 => k_is); (case k7 => k_is)
    (case a8 => k_is); (case l8 => k_is); (case c8 => k_is); (case k8 => k_is)
    (case a9 => k_is); (case l9 => k_is); (case c9 => k_is); (case k9 => k_is)
    (case a10 => k_is); (case l10 => k_is); (case c10 => k_is); (case k10 => k_is)
    (case a11 => k_is); (case l11 => k_is); (case c11 => k_is); (case k11 => k_is)
    (case a12 => k_is); (case l12 => k_is); (case c12 => k_is); (case k12 => k_is)
    (case a13 => k_is); (case l13 => k_is); (case c13 => k_is); (case k13 => k_is)
    (case a14 => k_is); (case l14 => k_is); (case c14 => k_is); (case k14 => k_is)
    (case a15 => k_is); (case l15 => k_is); (case c15 => k_is); (case k15 => k_is)
    (case a16 => k_is); (case l16 => k_is); (case c16 => k_is); (case k16 => k_is)
    (case a17 => k_is); (case l17 => k_is); (case c17 => k_is); (case k17 => k_is)
    (case a18 => k_is); (case l18 => k_is); (case c18 => k_is); (case k18 => k_is)
    (case a19 => k_is); (case l19 => k_is); (case c19 => k_is); (case k19 => k_is)
    (case a20 => k_is); (case l20 => k_is); (case c20 => k_is); (case k20 => k_is)
    (case z_bool => k_is); (case z_enumerate => k_is); (case z_int => k_is); (case z_isinstance => k_is)
    (case z_len => k_is); (case z_list => k_is); (case z_max => k_is); (case z_min => k_is)
    (case z_range => k_is); (case z_sorted => k_is); (case z_sum => k_is)
#print axioms PySem.Challenge.cw_leastfloor_k22_whole_phases_holds
